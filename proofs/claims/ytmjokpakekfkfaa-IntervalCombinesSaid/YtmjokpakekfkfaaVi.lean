/- The contracts of OfKind, All and of their references; and of the reference's Same. -/
import Derived.Test.YtmjokpakekfkfaaVh
set_option linter.unusedSimpArgs false
set_option linter.unusedVariables false
namespace Go.Proofs.Ytmjokpakekfkfaa
open Go.RowKit

def allL : List I := [⟨⟨1, 0, ByteArray.empty⟩, zV, true⟩]
def AllOut (w : World) (e : Ending) (w' : World) : Prop := ∃ b, e = .returned (.slice (some ⟨b, 0, none⟩) 1 1) ∧ IvAt w' (.slice (some ⟨b, 0, none⟩) 1 1) allL ∧ Gro w w'
theorem all_end {w W : World} {u : Value} {T : TypeId} {g : Nat} (hu : u = .slice (some ⟨g, 0, none⟩) 1 1) (hg : g = W.heap.size) (h : Gro w W) : AllOut w (.returned u) (W.alloc (iObj ⟨⟨1, 0, ByteArray.empty⟩, zV, true⟩ T)) := by
  subst hu hg; exact ⟨_, rfl, iv_new _ _ _, h.alloc _⟩
theorem all_calls (w : World) : Calls Try.prog 48 #[] w (AllOut w) := by
  have HF := Lib.hid (first_calls 1 w)
  have e : (.tuple #[(firstV 1).val, .bool (firstB 1)] : Value) = .tuple #[V.val ⟨1, 0, ⟨#[]⟩⟩, .bool true] := rfl
  rw [e] at HF
  clear e
  go_enter Try.func48, Try.ntmps48
  go_wp2_with fail
  refine HF.out.mono ?_
  rintro e w2 ⟨rfl, hg⟩
  have HG := Lib.hid hg
  clear hg HF
  go_wp2
  go_ret
  exact all_end rfl (by simp) (HG.out.alloc _)
theorem refAll_calls (w : World) : Calls Try.prog 35 #[] w (AllOut w) := by
  go_enter Try.func35, Try.ntmps35
  go_wp2
  go_ret
  exact all_end rfl rfl (Gro.refl _)

theorem equalIn_V (d : Nat) (k n k' n' : Int) (t t' : ByteArray) (w : World) :
    (Op.equalIn (d + 2) 25 (.agg #[.int .i64 k, .int .i64 n, .string t]) (.agg #[.int .i64 k', .int .i64 n', .string t'])).run Try.prog w = .ok (decide ((⟨k, n, t⟩ : V) = ⟨k', n', t'⟩)) w := by
  have hS : Try.prog.underlying 25 = some (.struct (Try.prog.fieldsOf 25)) := by kernel_rfl
  have hp : Try.prog.stoodInHeld 25 = false := by kernel_rfl
  have u3 := Try.underlying3
  have a3 := Try.isAgg3
  have z3 := Try.sizeOf3
  have u2 := Try.underlying2
  have a2 := Try.isAgg2
  have z2 := Try.sizeOf2
  have u9 := Try.underlying9
  have a9 := Try.isAgg9
  have z9 := Try.sizeOf9
  rw [run_equalIn_agg w (d + 1) 25 _ _ hS hp]
  simp only [Program.fieldsOf, Try.underlying25]
  go_simp
  by_cases h1 : k = k' <;> by_cases h2 : n = n' <;> by_cases h3 : t = t' <;> simp [h1, h2, h3]
  exact fun h => h3 (toList_inj h)
/-- '!=' of two intervals. -/
theorem neq_I (x y : I) (w : World) : (binOp .neq 57 x.val y.val).run Try.prog w = .ok (.bool (!decide (x = y))) w := by
  obtain ⟨⟨a, b, c⟩, ⟨d, e, f⟩, g⟩ := x
  obtain ⟨⟨a', b', c'⟩, ⟨d', e', f'⟩, g'⟩ := y
  have hS : Try.prog.underlying 57 = some (.struct (Try.prog.fieldsOf 57)) := by kernel_rfl
  have hp : Try.prog.stoodInHeld 57 = false := by kernel_rfl
  have u4 := Try.underlying4
  have a4 := Try.isAgg4
  have z4 := Try.sizeOf4
  have z5 := Try.sizeOf25
  rw [run_neq_struct, show (10000 : Nat) = 9999 + 1 from rfl, run_equalIn_agg w 9999 57 _ _ hS hp]
  simp only [Program.fieldsOf, Try.underlying57]
  obtain ⟨m, hm⟩ : ∃ m, 9999 = m + 2 := ⟨9997, rfl⟩
  rw [hm]
  have hb : ∀ p q w, (Op.equalIn (m + 2) 4 (.bool p) (.bool q)).run Try.prog w = .ok (p == q) w := fun p q w => run_equalIn_bool' w (m + 1) _ _ _ Try.underlying4
  have hv := equalIn_V m
  clear hm
  go_simp
  by_cases h1 : a = a' <;> by_cases h2 : b = b' <;> by_cases h3 : c = c' <;> by_cases h4 : d = d' <;> by_cases h5 : e = e' <;> by_cases h6 : f = f' <;> by_cases h7 : g = g' <;> simp [h1, h2, h3, h4, h5, h6, h7]
theorem takeI_eq {a b : List I} {k : Nat} (h : a.take k = b.take k) (ha : k < a.length) (hb : k < b.length) (he : a[k] = b[k]) : a.take (k + 1) = b.take (k + 1) := by
  rw [List.take_add_one, List.take_add_one, h, List.getElem?_eq_getElem ha, List.getElem?_eq_getElem hb, he]
set_option maxHeartbeats 1000000 in
theorem sameI_calls (va vb : Value) (a b : List I) (w : World) (ha : IvAt w va a) (hb : IvAt w vb b) :
    Calls Try.prog 19 #[va, vb] w fun e w' => e = .returned (.bool (decide (a = b))) ∧ Gro w w' := by
  have mx := mixed
  obtain ⟨pa, ca, rfl, la, ha⟩ := ha
  obtain ⟨pb, cb, rfl, lb, hb⟩ := hb
  by_cases hl : a.length = b.length
  · obtain ⟨w0, rfl⟩ : ∃ w0, w0 = w := ⟨_, rfl⟩
    have HA := Lib.hid ha
    have HB := Lib.hid hb
    clear ha hb
    generalize hN : b.length = N at hl lb ⊢
    rw [hl]
    have HN := Lib.hid hN
    have HL := Lib.hid hl
    clear hN hl la
    go_enter Try.func19, Try.ntmps19
    go_wp2_with fail
    go_loopw [5, 13] (fun _ i wr => ∃ k : Nat, k ≤ N ∧ i = .int .i64 k ∧ a.take k = b.take k ∧ Gro w0 wr) (fun _ i _ => N - (intOf i).toNat)
    case atStart => exact ⟨0, by omega, rfl, by simp, Gro.refl _⟩
    case round =>
      obtain ⟨k, hk, rfl, ht, hg⟩ := hrel
      have HT := Lib.hid ht
      have HG := Lib.hid hg
      clear ht hg
      have hwk := step_int k (by omega)
      by_cases hlt : k < N
      · have hlt' : decide ((k : Int) < (N : Int)) = true := by simp; omega
        have hka : k < a.length := by rw [HL.out]; exact hlt
        have hkb : k < b.length := by rw [HN.out]; exact hlt
        obtain ⟨ba, oa, rfl, hra⟩ := HA.out.resolve_left (by rintro rfl; simp at hka)
        obtain ⟨bb, ob, rfl, hrb⟩ := HB.out.resolve_left (by rintro rfl; simp at hkb)
        have hata := (hra.later HG.out.below).at_ k hka
        have hatb := (hrb.later HG.out.below).at_ k hkb
        have la1 := (hra.later HG.out.below).blk
        have lb1 := (hrb.later HG.out.below).blk
        have HTE : Hid (a[k] = b[k] → a.take (k + 1) = b.take (k + 1)) := takeI_eq HT.out hka hkb
        have HNE : Hid (¬ a[k] = b[k] → ¬ a = b) := by show _ → _; intro h e; subst e; exact h rfl
        generalize a[k] = p at hata HTE HNE
        generalize b[k] = q at hatb HTE HNE
        obtain ⟨z, hz⟩ : ∃ z, decide (p = q) = z := ⟨_, rfl⟩
        have he : ∀ w, (binOp .neq 57 p.val q.val).run Try.prog w = .ok (.bool (!z)) w := fun w => by rw [neq_I, hz]
        have HZ := Lib.hid hz
        obtain ⟨⟨pk, pn, pT⟩, ⟨rk, rn, rT⟩, po⟩ := p
        obtain ⟨⟨qk, qn, qT⟩, ⟨sk, sn, sT⟩, qo⟩ := q
        obtain ⟨⟨a0, a1, a2⟩, a3, a4, a5, a6⟩ := hata
        obtain ⟨⟨b0, b1, b2⟩, b3, b4, b5, b6⟩ := hatb
        simp only at a0 a1 a2 a3 a4 a5 a6 b0 b1 b2 b3 b4 b5 b6
        clear hra hrb hz
        cases z
        · have HNQ := Lib.hid (HNE.out (of_decide_eq_false HZ.out))
          clear HTE HNE
          go_wp2_with fail
          go_quiet_grown (fail)
          go_wp2
          go_ret
          exact ⟨ret_b (by simp [HNQ.out]), HG.out.grown _ _⟩
        · have HTK := Lib.hid (HTE.out (of_decide_eq_true HZ.out))
          clear HTE HNE
          go_wp2_with fail
          go_quiet_grown (fail)
          go_wp2
          have hlen := HN.out
          exact ⟨⟨k + 1, by omega, by go_num, HTK.out, HG.out.grown _ _⟩, by simp [intOf]; omega⟩
      · have hlt' : decide ((k : Int) < (N : Int)) = false := by simp; omega
        have HE : Hid (a = b) := by
          show _ = _
          have h := HT.out
          rw [List.take_of_length_le (by have := HL.out; omega), List.take_of_length_le (by have := HN.out; omega)] at h
          exact h
        go_wp2
        go_ret
        exact ⟨ret_b (by simp [HE.out]), HG.out⟩
  · have hl' : ¬ ((a.length : Int) = (b.length : Int)) := by omega
    have hne : ¬ a = b := fun h => hl (by rw [h])
    have HNE := Lib.hid hne
    clear ha hb hne
    go_enter Try.func19, Try.ntmps19
    go_wp2
    go_ret
    exact ⟨ret_b (by simp [HNE.out]), Gro.refl _⟩
end Go.Proofs.Ytmjokpakekfkfaa
