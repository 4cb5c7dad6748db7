/- Contracts of slices.Equal at values, of value.Has and of the reference's Has. -/
import Derived.Test.YtllakifmflploaaP
set_option linter.unusedSimpArgs false
set_option linter.unusedVariables false
namespace Go.Proofs.Ytllakifmflploaa
open Go.RowKit

/-- '!=' of two values. -/
theorem neq_V (k n k' n' : Int) (t t' : ByteArray) (w : World) :
    (binOp .neq 35 (.agg #[.int .i64 k, .int .i64 n, .string t]) (.agg #[.int .i64 k', .int .i64 n', .string t'])).run Try.prog w = .ok (.bool (!decide ((⟨k, n, t⟩ : V) = ⟨k', n', t'⟩))) w := by
  have hS : Try.prog.underlying 35 = some (.struct (Try.prog.fieldsOf 35)) := by kernel_rfl
  have hp : Try.prog.stoodInHeld 35 = false := by kernel_rfl
  have u3 := Try.underlying3
  have a3 := Try.isAgg3
  have z3 := Try.sizeOf3
  have u2 := Try.underlying2
  have a2 := Try.isAgg2
  have z2 := Try.sizeOf2
  have u9 := Try.underlying9
  have a9 := Try.isAgg9
  have z9 := Try.sizeOf9
  rw [run_neq_struct, show (10000 : Nat) = 9999 + 1 from rfl, run_equalIn_agg w 9999 35 _ _ hS hp]
  simp only [Program.fieldsOf, Try.underlying35]
  go_simp
  by_cases h1 : k = k' <;> by_cases h2 : n = n' <;> by_cases h3 : t = t' <;> simp [h1, h2, h3]
  exact fun h => h3 (toList_inj h)

theorem take_eq {a b : List V} {k : Nat} (h : a.take k = b.take k) (ha : k < a.length) (hb : k < b.length) (he : a[k] = b[k]) : a.take (k + 1) = b.take (k + 1) := by
  rw [List.take_add_one, List.take_add_one, h, List.getElem?_eq_getElem ha, List.getElem?_eq_getElem hb, he]
set_option maxHeartbeats 1000000 in
theorem equal_calls (va vb : Value) (a b : List V) (w : World) (ha : RowAt w va a) (hb : RowAt w vb b) :
    Calls Try.prog 74 #[va, vb] w fun e w' => e = .returned (.bool (decide (a = b))) ∧ Gro w w' := by
  have mx := mixed
  obtain ⟨pa, ca, rfl, la, ha⟩ := ha
  obtain ⟨pb, cb, rfl, lb, hb⟩ := hb
  by_cases hl : a.length = b.length
  · obtain ⟨w0, rfl⟩ : ∃ w0, w0 = w := ⟨_, rfl⟩
    have HA := Lib.hid ha
    have HB := Lib.hid hb
    clear ha hb
    generalize hN : b.length = N at hl lb ⊢
    rw [hl]
    have HN := Lib.hid hN
    have HL := Lib.hid hl
    clear hN hl la
    go_enter Try.func74, Try.ntmps74
    go_wp2_with fail
    go_loopw [13] (fun i wr => ∃ k : Nat, k ≤ N ∧ i = .int .i64 k ∧ a.take k = b.take k ∧ Gro w0 wr) (fun i _ => N - (intOf i).toNat)
    case atStart => exact ⟨0, by omega, rfl, by simp, Gro.refl _⟩
    case round =>
      obtain ⟨k, hk, rfl, ht, hg⟩ := hrel
      have HT := Lib.hid ht
      have HG := Lib.hid hg
      clear ht hg
      have hwk := step_int k (by omega)
      by_cases hlt : k < N
      · have hlt' : decide ((k : Int) < (N : Int)) = true := by simp; omega
        have hka : k < a.length := by rw [HL.out]; exact hlt
        have hkb : k < b.length := by rw [HN.out]; exact hlt
        obtain ⟨ba, oa, rfl, hra⟩ := HA.out.resolve_left (by rintro rfl; simp at hka)
        obtain ⟨bb, ob, rfl, hrb⟩ := HB.out.resolve_left (by rintro rfl; simp at hkb)
        obtain ⟨a1, a2, a3⟩ := (hra.later HG.out.below).at_ k hka
        obtain ⟨b1, b2, b3⟩ := (hrb.later HG.out.below).at_ k hkb
        have la1 := (hra.later HG.out.below).blk
        have lb1 := (hrb.later HG.out.below).blk
        have HTE : Hid (a[k] = b[k] → a.take (k + 1) = b.take (k + 1)) := take_eq HT.out hka hkb
        have HNE : Hid (¬ a[k] = b[k] → ¬ a = b) := by show _ → _; intro h e; subst e; exact h rfl
        generalize a[k] = p at a1 a2 a3 HTE HNE
        generalize b[k] = q at b1 b2 b3 HTE HNE
        obtain ⟨pk, pn, pT⟩ := p
        obtain ⟨qk, qn, qT⟩ := q
        simp only at a1 a2 a3 b1 b2 b3
        have he := eql_V
        clear hra hrb
        by_cases e : (⟨pk, pn, pT⟩ : V) = ⟨qk, qn, qT⟩
        · have HTK := Lib.hid (HTE.out e)
          simp only [V.mk.injEq] at e
          obtain ⟨rfl, rfl, rfl⟩ := e
          clear HTE HNE
          go_wp2_with fail
          go_quiet_grown (fail)
          go_wp2
          have hlen := HN.out
          exact ⟨⟨k + 1, by omega, by go_num, HTK.out, HG.out.grown _ _⟩, by simp [intOf]; omega⟩
        · have HNQ := Lib.hid (HNE.out e)
          clear HTE HNE
          have hd : decide ((⟨pk, pn, pT⟩ : V) = ⟨qk, qn, qT⟩) = false := decide_eq_false e
          have hd2 : ¬ (pk = qk ∧ pn = qn ∧ pT = qT) := by rintro ⟨rfl, rfl, rfl⟩; exact e rfl
          have hd3 : decide (pk = qk ∧ pn = qn ∧ pT = qT) = false := decide_eq_false hd2
          have he1 : ∀ w, (binOp .neq 35 (.agg #[.int .i64 pk, .int .i64 pn, .string pT]) (.agg #[.int .i64 qk, .int .i64 qn, .string qT])).run Try.prog w = .ok (.bool true) w := fun w => by rw [neq_V, hd]; rfl
          clear he e hd hd2 hd3
          go_wp2_with fail
          go_quiet_grown (fail)
          go_wp2
          go_ret
          exact ⟨ret_b (by simp [HNQ.out]), HG.out.grown _ _⟩
      · have hlt' : decide ((k : Int) < (N : Int)) = false := by simp; omega
        have HE : Hid (a = b) := by
          show _ = _
          have h := HT.out
          rw [List.take_of_length_le (by have := HL.out; omega), List.take_of_length_le (by have := HN.out; omega)] at h
          exact h
        go_wp2
        go_ret
        exact ⟨ret_b (by simp [HE.out]), HG.out⟩
  · have hl' : ¬ ((a.length : Int) = (b.length : Int)) := by omega
    have hne : ¬ a = b := fun h => hl (by rw [h])
    have HNE := Lib.hid hne
    clear ha hb hne
    go_enter Try.func74, Try.ntmps74
    go_wp2
    go_ret
    exact ⟨ret_b (by simp [HNE.out]), Gro.refl _⟩

theorem has_step {rs : List (List V)} {r : List V} {k : Nat} (h : r ∉ rs.take k) (hk : k < rs.length) (hne : ¬ rs[k] = r) : r ∉ rs.take (k + 1) := by
  rw [List.take_add_one, List.getElem?_eq_getElem hk]
  simp only [Option.toList_some, List.mem_append, List.mem_singleton]
  rintro (h' | h')
  · exact h h'
  · exact hne h'.symm
set_option maxHeartbeats 1000000 in
theorem refHas_calls (va vr : Value) (rs : List (List V)) (r : List V) (w : World) (ha : RowsAt w va rs) (hr : RowAt w vr r) :
    Calls Try.prog 18 #[va, vr] w fun e w' => e = .returned (.bool (decide (r ∈ rs))) ∧ Gro w w' := by
  have mx := mixed
  obtain ⟨pa, ca, rfl, la, ha⟩ := ha
  obtain ⟨w0, rfl⟩ : ∃ w0, w0 = w := ⟨_, rfl⟩
  have HA := Lib.hid ha
  have HR := Lib.hid hr
  clear ha hr
  generalize hN : rs.length = N at la ⊢
  have HN := Lib.hid hN
  clear hN
  go_enter Try.func18, Try.ntmps18
  go_wp2_with fail
  go_loopw [9] (fun i wr => ∃ k : Nat, k ≤ N ∧ i = .int .i64 k ∧ r ∉ rs.take k ∧ Gro w0 wr) (fun i _ => N - (intOf i).toNat)
  case atStart => exact ⟨0, by omega, rfl, by simp, Gro.refl _⟩
  case round =>
    obtain ⟨k, hk, rfl, ht, hg⟩ := hrel
    have HT := Lib.hid ht
    have HG := Lib.hid hg
    clear ht hg
    have hwk := step_int k (by omega)
    by_cases hlt : k < N
    · have hlt' : decide ((k : Int) < (N : Int)) = true := by simp; omega
      have hkl : k < rs.length := by rw [HN.out]; exact hlt
      obtain ⟨ba, oa, rfl, hra⟩ := HA.out.resolve_left (by rintro rfl; simp at hkl)
      obtain ⟨u, hu, hru⟩ := (hra.later HG.out.below).at_ k hkl
      have la1 := (hra.later HG.out.below).blk
      have HST : Hid (¬ rs[k] = r → r ∉ rs.take (k + 1)) := has_step HT.out hkl
      have HME : Hid (rs[k] = r → r ∈ rs) := by show _ → _; rintro rfl; exact List.getElem_mem hkl
      have hC := refCompareRows_calls u vr rs[k] r wr hru (HR.out.later HG.out.below)
      generalize rs[k] = x at HST HME hC hru
      by_cases e : x = r
      · have hz : cmpR x r = 0 := (goodR.zero _ _).2 e
        rw [hz] at hC
        have HC := Lib.hid hC
        have HMM := Lib.hid (HME.out e)
        clear hC HST HME hru hra e
        go_wp2_with fail
        refine HC.out.mono ?_
        rintro e w5 ⟨rfl, hg5⟩
        have HG5 := Lib.hid hg5
        clear hg5
        go_wp2
        go_ret
        exact ⟨ret_b (by simp [HMM.out]), HG.out.trans HG5.out⟩
      · have hz : ¬ cmpR x r = 0 := fun h => e ((goodR.zero _ _).1 h)
        have hzb : (cmpR x r == 0) = false := by simpa using hz
        generalize cmpR x r = cc at hC hz hzb
        have HC := Lib.hid hC
        have HTT := Lib.hid (HST.out e)
        clear hC HST HME hru hra e
        go_wp2_with fail
        refine HC.out.mono ?_
        rintro e w5 ⟨rfl, hg5⟩
        have HG5 := Lib.hid hg5
        clear hg5
        go_wp2
        have hlen := HN.out
        exact ⟨⟨k + 1, by omega, by go_num, HTT.out, HG.out.trans HG5.out⟩, by simp [intOf]; omega⟩
    · have hlt' : decide ((k : Int) < (N : Int)) = false := by simp; omega
      have HE : Hid (r ∉ rs) := by
        show _ → _
        have h := HT.out
        rw [List.take_of_length_le (by have := HN.out; omega)] at h
        exact h
      go_wp2
      go_ret
      exact ⟨ret_b (by simp [HE.out]), HG.out⟩
set_option maxHeartbeats 1000000 in
theorem has_calls (va vr : Value) (rs : List (List V)) (r : List V) (w : World) (ha : RowsAt w va rs) (hr : RowAt w vr r) :
    Calls Try.prog 17 #[va, vr] w fun e w' => e = .returned (.bool (decide (r ∈ rs))) ∧ Gro w w' := by
  have mx := mixed
  obtain ⟨pa, ca, rfl, la, ha⟩ := ha
  obtain ⟨w0, rfl⟩ : ∃ w0, w0 = w := ⟨_, rfl⟩
  have HA := Lib.hid ha
  have HR := Lib.hid hr
  clear ha hr
  generalize hN : rs.length = N at la ⊢
  have HN := Lib.hid hN
  clear hN
  go_enter Try.func17, Try.ntmps17
  go_wp2_with fail
  go_loopw [9] (fun i wr => ∃ k : Nat, k ≤ N ∧ i = .int .i64 k ∧ r ∉ rs.take k ∧ Gro w0 wr) (fun i _ => N - (intOf i).toNat)
  case atStart => exact ⟨0, by omega, rfl, by simp, Gro.refl _⟩
  case round =>
    obtain ⟨k, hk, rfl, ht, hg⟩ := hrel
    have HT := Lib.hid ht
    have HG := Lib.hid hg
    clear ht hg
    have hwk := step_int k (by omega)
    by_cases hlt : k < N
    · have hlt' : decide ((k : Int) < (N : Int)) = true := by simp; omega
      have hkl : k < rs.length := by rw [HN.out]; exact hlt
      obtain ⟨ba, oa, rfl, hra⟩ := HA.out.resolve_left (by rintro rfl; simp at hkl)
      obtain ⟨u, hu, hru⟩ := (hra.later HG.out.below).at_ k hkl
      have la1 := (hra.later HG.out.below).blk
      have HST : Hid (¬ rs[k] = r → r ∉ rs.take (k + 1)) := has_step HT.out hkl
      have HME : Hid (rs[k] = r → r ∈ rs) := by show _ → _; rintro rfl; exact List.getElem_mem hkl
      have hC := equal_calls u vr rs[k] r wr hru (HR.out.later HG.out.below)
      generalize rs[k] = x at HST HME hC hru
      by_cases e : x = r
      · rw [decide_eq_true e] at hC
        have HC := Lib.hid hC
        have HMM := Lib.hid (HME.out e)
        clear hC HST HME hru hra e
        go_wp2_with fail
        refine HC.out.mono ?_
        rintro e w5 ⟨rfl, hg5⟩
        have HG5 := Lib.hid hg5
        clear hg5
        go_wp2
        go_ret
        exact ⟨ret_b (by simp [HMM.out]), HG.out.trans HG5.out⟩
      · rw [decide_eq_false e] at hC
        have HC := Lib.hid hC
        have HTT := Lib.hid (HST.out e)
        clear hC HST HME hru hra e
        go_wp2_with fail
        refine HC.out.mono ?_
        rintro e w5 ⟨rfl, hg5⟩
        have HG5 := Lib.hid hg5
        clear hg5
        go_wp2
        have hlen := HN.out
        exact ⟨⟨k + 1, by omega, by go_num, HTT.out, HG.out.trans HG5.out⟩, by simp [intOf]; omega⟩
    · have hlt' : decide ((k : Int) < (N : Int)) = false := by simp; omega
      have HE : Hid (r ∉ rs) := by
        show _ → _
        have h := HT.out
        rw [List.take_of_length_le (by have := HN.out; omega)] at h
        exact h
      go_wp2
      go_ret
      exact ⟨ret_b (by simp [HE.out]), HG.out⟩
end Go.Proofs.Ytllakifmflploaa
