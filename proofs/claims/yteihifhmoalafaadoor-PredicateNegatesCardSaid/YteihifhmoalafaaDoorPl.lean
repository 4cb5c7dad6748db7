/- The contracts of predicate.columnKinds and of the reference's ColumnKinds. -/
import Derived.Test.YteihifhmoalafaaDoorPk
import Derived.Test.YteihifhmoalafaaDoorPc
set_option linter.unusedSimpArgs false
set_option linter.unusedVariables false
namespace Go.Proofs.YteihifhmoalafaaDoor
open Go.RowKit

theorem kfn_calls (k : Int) (w : World) : Calls Tryd.prog 61 #[.int .i64 k] w (BoolG (!kindB k) w) := by
  by_cases h3 : k = 3
  · subst h3
    go_enter Tryd.func61, Tryd.ntmps61
    go_wp2
    go_ret
    exact boolg rfl (Gro.refl _)
  by_cases h4 : k = 4
  · subst h4
    go_enter Tryd.func61, Tryd.ntmps61
    go_wp2
    go_ret
    exact boolg rfl (Gro.refl _)
  by_cases h5 : k = 5
  · subst h5
    go_enter Tryd.func61, Tryd.ntmps61
    go_wp2
    go_ret
    exact boolg rfl (Gro.refl _)
  have HK : Hid (kindB k = false) := by show _ = _; unfold kindB; rw [decide_eq_false h3, decide_eq_false h4, decide_eq_false h5]; rfl
  go_enter Tryd.func61, Tryd.ntmps61
  go_wp2
  go_ret
  exact boolg (by rw [HK.out]; simp [h3, h4, h5]) (Gro.refl _)
theorem refColumnKind_calls (k : Int) (w : World) : Calls Tryd.prog 64 #[.int .i64 k] w (BoolG (kindB k) w) := by
  by_cases h3 : k = 3
  · subst h3
    go_enter Tryd.func64, Tryd.ntmps64
    go_wp2
    go_ret
    exact boolg rfl (Gro.refl _)
  by_cases h4 : k = 4
  · subst h4
    go_enter Tryd.func64, Tryd.ntmps64
    go_wp2
    go_ret
    exact boolg rfl (Gro.refl _)
  by_cases h5 : k = 5
  · subst h5
    go_enter Tryd.func64, Tryd.ntmps64
    go_wp2
    go_ret
    exact boolg rfl (Gro.refl _)
  have HK : Hid (kindB k = false) := by show _ = _; unfold kindB; rw [decide_eq_false h3, decide_eq_false h4, decide_eq_false h5]; rfl
  go_enter Tryd.func64, Tryd.ntmps64
  go_wp2
  go_ret
  exact boolg (by rw [HK.out]; simp [h3, h4, h5]) (Gro.refl _)
theorem kindsB_any : ∀ l : List Int, kindsB l = !l.any fun k => !kindB k
  | [] => rfl
  | k :: l => by
    have h := kindsB_any l
    unfold kindsB at h ⊢
    rw [List.all_cons, List.any_cons, h]; cases kindB k <;> simp
/-- What IndexFunc answers. -/
def IdxI (l : List Int) (w : World) (e : Ending) (w' : World) : Prop := ∃ i : Int, e = .returned (.int .i64 i) ∧ ((l.any fun k => !kindB k) = true → 0 ≤ i) ∧ ((l.any fun k => !kindB k) = false → i = -1) ∧ Gro w w'
set_option maxHeartbeats 2000000 in
set_option maxRecDepth 100000 in
theorem idx_kinds (S : Nat → Prop) (v : Value) (ks : List Int) (w : World) (hp : IntsAt S w v ks) : Calls Tryd.prog 76 #[v, .func (.func 61) #[] #[]] w (IdxI ks w) := by
  obtain ⟨w0, rfl⟩ : ∃ w0, w0 = w := ⟨_, rfl⟩
  have HP := Lib.hid hp
  obtain ⟨a, cap, rfl, hl⟩ := hp.slice
  generalize hN : ks.length = N at hl HP ⊢
  have HN := Lib.hid hN
  clear hN hp
  go_enter Tryd.func76, Tryd.ntmps76
  go_wp2_with fail
  go_loopw [5, 8] (fun _ i wr => ∃ j : Nat, j ≤ N ∧ i = .int .i64 j ∧ ((ks.take j).any fun k => !kindB k) = false ∧ Gro w0 wr) (fun _ i _ => N - (intOf i).toNat)
  case atStart => exact ⟨0, by omega, rfl, by simp, Gro.refl _⟩
  case round =>
    obtain ⟨j, hj, rfl, ht, hg⟩ := hrel
    have HT := Lib.hid ht
    have HG := Lib.hid hg
    have hwk := step_i j (by omega)
    by_cases hlt : j < N
    · have hkl : j < ks.length := by rw [HN.out]; exact hlt
      have hlt' : decide ((j : Int) < (N : Int)) = true := by simp; omega
      obtain ⟨b, off, rfl, hbl, -, d0⟩ := (HP.out.later hg.below).get hkl
      obtain ⟨x, hx⟩ : ∃ x, ks[j] = x := ⟨_, rfl⟩
      have hc := kfn_calls x wr
      rw [hx] at d0
      have HX := Lib.hid hx
      obtain ⟨q, hq⟩ : ∃ q, (!kindB x) = q := ⟨_, rfl⟩
      rw [hq] at hc
      have HC := Lib.hid hc
      have HQ := Lib.hid hq
      clear ht hg hx hc hq
      cases q
      · go_wp2_with fail
        refine HC.out.mono ?_
        rintro e w2 ⟨rfl, hg2⟩
        have HG2 := Lib.hid hg2
        clear hg2
        go_wp2
        exact ⟨⟨j + 1, by omega, by go_num, by rw [List.take_succ_eq_append_getElem hkl, List.any_append, HT.out, HX.out]; simp only [List.any_cons, List.any_nil, HQ.out]; rfl, HG.out.trans HG2.out⟩, by simp [intOf]; omega⟩
      · have HIN : Hid ((ks.any fun k => !kindB k) = true) := by show _ = _; rw [List.any_eq_true]; exact ⟨x, by rw [← HX.out]; exact List.getElem_mem hkl, HQ.out⟩
        go_wp2_with fail
        refine HC.out.mono ?_
        rintro e w2 ⟨rfl, hg2⟩
        have HG2 := Lib.hid hg2
        clear hg2
        go_wp2
        go_ret
        exact ⟨(j : Int), rfl, (fun _ => by omega), (fun h => by rw [HIN.out] at h; cases h), HG.out.trans HG2.out⟩
    · have hlt' : decide ((j : Int) < (N : Int)) = false := by simp; omega
      have HE : Hid ((ks.any fun k => !kindB k) = false) := by
        show _ = _
        rw [List.take_of_length_le (by have := HN.out; omega)] at ht
        exact ht
      clear ht hg
      go_wp2
      go_ret
      exact ⟨-1, rfl, (fun h => by rw [HE.out] at h; cases h), (fun _ => rfl), HG.out⟩
set_option maxRecDepth 100000 in
theorem containsKinds_calls (S : Nat → Prop) (v : Value) (ks : List Int) (w : World) (hp : IntsAt S w v ks) : Calls Tryd.prog 60 #[v, .func (.func 61) #[] #[]] w (BoolG (ks.any fun k => !kindB k) w) := by
  have HI := Lib.hid (idx_kinds S v ks w hp)
  obtain ⟨a, cap, rfl, -⟩ := hp
  obtain ⟨q, hq⟩ : ∃ q, (ks.any fun k => !kindB k) = q := ⟨_, rfl⟩
  rw [hq]
  have HQ := Lib.hid hq
  clear hq
  go_enter Tryd.func60, Tryd.ntmps60
  go_wp2_with fail
  refine HI.out.mono ?_
  rintro e w2 ⟨i, rfl, h1, h2, hg⟩
  have HG := Lib.hid hg
  rw [HQ.out] at h1 h2
  cases q
  · have : i = -1 := h2 rfl
    subst this
    clear h1 h2 hg
    go_wp2
    go_ret
    exact boolg (by simp) HG.out
  · have hi : 0 ≤ i := h1 rfl
    clear h1 h2 hg
    go_wp2
    go_ret
    exact boolg (by simp [hi]) HG.out
set_option maxRecDepth 100000 in
theorem columnKinds_calls (S : Nat → Prop) (v : Value) (ks : List Int) (w : World) (hp : IntsAt S w v ks) : Calls Tryd.prog 35 #[v] w (BoolG (kindsB ks) w) := by
  have HI := Lib.hid (containsKinds_calls S v ks w hp)
  rw [kindsB_any]
  obtain ⟨a, cap, rfl, -⟩ := hp
  generalize (ks.any fun k => !kindB k) = q at HI ⊢
  go_enter Tryd.func35, Tryd.ntmps35
  go_wp2_with fail
  refine HI.out.mono ?_
  rintro e w2 ⟨rfl, hg⟩
  have HG := Lib.hid hg
  clear hg
  go_wp2
  go_ret
  exact boolg rfl HG.out
set_option maxHeartbeats 2000000 in
set_option maxRecDepth 100000 in
theorem refColumnKinds_calls (S : Nat → Prop) (v : Value) (ks : List Int) (w : World) (hp : IntsAt S w v ks) : Calls Tryd.prog 38 #[v] w (BoolG (kindsB ks) w) := by
  obtain ⟨w0, rfl⟩ : ∃ w0, w0 = w := ⟨_, rfl⟩
  rw [kindsB_any]
  have HP := Lib.hid hp
  obtain ⟨a, cap, rfl, hl⟩ := hp.slice
  generalize hN : ks.length = N at hl HP ⊢
  have HN := Lib.hid hN
  obtain ⟨res, hres⟩ : ∃ res, (ks.any fun k => !kindB k) = res := ⟨_, rfl⟩
  rw [hres]
  have HR := Lib.hid hres
  clear hN hp hres
  go_enter Tryd.func38, Tryd.ntmps38
  go_wp2_with fail
  go_loopw [4, 7] (fun _ i wr => ∃ j : Nat, j ≤ N ∧ i = .int .i64 j ∧ ((ks.take j).any fun k => !kindB k) = false ∧ Gro w0 wr) (fun _ i _ => N - (intOf i).toNat)
  case atStart => exact ⟨0, by omega, rfl, by simp, Gro.refl _⟩
  case round =>
    obtain ⟨j, hj, rfl, ht, hg⟩ := hrel
    have HT := Lib.hid ht
    have HG := Lib.hid hg
    have hwk := step_i j (by omega)
    by_cases hlt : j < N
    · have hkl : j < ks.length := by rw [HN.out]; exact hlt
      have hlt' : decide ((j : Int) < (N : Int)) = true := by simp; omega
      obtain ⟨b, off, rfl, hbl, -, d0⟩ := (HP.out.later hg.below).get hkl
      obtain ⟨x, hx⟩ : ∃ x, ks[j] = x := ⟨_, rfl⟩
      have hc := refColumnKind_calls x wr
      rw [hx] at d0
      have HX := Lib.hid hx
      obtain ⟨q, hq⟩ : ∃ q, kindB x = q := ⟨_, rfl⟩
      rw [hq] at hc
      have HC := Lib.hid hc
      have HQ := Lib.hid hq
      clear ht hg hx hc hq
      cases q
      · have HIN : Hid (true = res) := by show _ = _; rw [← HR.out]; symm; rw [List.any_eq_true]; exact ⟨x, by rw [← HX.out]; exact List.getElem_mem hkl, by rw [HQ.out]; rfl⟩
        go_wp2_with fail
        refine HC.out.mono ?_
        rintro e w2 ⟨rfl, hg2⟩
        have HG2 := Lib.hid hg2
        clear hg2
        go_wp2
        go_ret
        exact boolg (by rw [← HIN.out]; rfl) (HG.out.trans HG2.out)
      · go_wp2_with fail
        refine HC.out.mono ?_
        rintro e w2 ⟨rfl, hg2⟩
        have HG2 := Lib.hid hg2
        clear hg2
        go_wp2
        exact ⟨⟨j + 1, by omega, by go_num, by rw [List.take_succ_eq_append_getElem hkl, List.any_append, HT.out, HX.out]; simp only [List.any_cons, List.any_nil, HQ.out]; rfl, HG.out.trans HG2.out⟩, by simp [intOf]; omega⟩
    · have hlt' : decide ((j : Int) < (N : Int)) = false := by simp; omega
      have HE : Hid (false = res) := by
        show _ = _
        rw [List.take_of_length_le (by have := HN.out; omega)] at ht
        rw [← HR.out, ht]
      clear ht hg
      go_wp2
      go_ret
      exact boolg (by rw [← HE.out]; rfl) HG.out
end Go.Proofs.YteihifhmoalafaaDoor
