/- The contract of the reference's AppendRow. -/
import Derived.Test.YtllakifmflploaaCl
import Derived.Test.YtllakifmflploaaCz
set_option linter.unusedSimpArgs false
set_option linter.unusedVariables false
namespace Go.Proofs.Ytllakifmflploaa
open Go.RowKit
open Go.Lib (byteCells uvarint zigzag)

set_option maxRecDepth 100000 in
theorem refAppendRow_long (v vr : Value) (bs : List UInt8) (r : List V) (w : World) (hr : RowAt w vr r) (hlong : 12 < r.length) : Calls Try.prog 30 #[v, vr] w (RowOut bs r w) := by
  obtain ⟨a, cap, rfl, hl, -⟩ := hr
  have HL := Lib.hid hlong
  generalize hN : r.length = N at hlong hl ⊢
  have d1 : decide ((12 : Int) < (N : Int)) = true := by simp; omega
  clear hN
  go_enter Try.func30, Try.ntmps30
  go_wp2
  go_ret2
  exact rowOut_long HL.out rfl (Below.refl _ _)

set_option maxHeartbeats 2000000 in
set_option maxRecDepth 100000 in
theorem refAppendRow_short (v vr : Value) (bs : List UInt8) (r : List V) (w : World) (hv : BytesAt w v bs) (hl : bs.length ≤ 100000000000) (hr : RowAt w vr r) (hn : ∀ x ∈ r, isI64 x.n) (hshort : r.length ≤ 12) : Calls Try.prog 30 #[v, vr] w (RowOut bs r w) := by
  obtain ⟨a, cap, rfl, -, hat⟩ := hr
  have HL : Hid (¬ 12 < r.length) := by show ¬ _; omega
  have HAT := Lib.hid hat
  have HV := Lib.hid hv
  have HNN := Lib.hid hn
  generalize hN : r.length = N at hshort ⊢
  have HN := Lib.hid hN
  have d1 : decide ((12 : Int) < (N : Int)) = false := by simp; omega
  clear hN hat hv hn
  go_enter Try.func30, Try.ntmps30
  go_wp2
  clear d1
  go_loopw [16] (fun i wr => ∃ k : Nat, k ≤ N ∧ i = .int .i64 k ∧ (∀ j (h : j < r.length), j < k → validB r[j] = true) ∧ Below w.heap.size w wr) (fun i _ => N - (intOf i).toNat)
  case atStart => exact ⟨0, Nat.zero_le _, rfl, fun j h hj => absurd hj (Nat.not_lt_zero _), Below.refl _ _⟩
  case round =>
    obtain ⟨k, hk, rfl, hval, hbel⟩ := hrel
    have HVA := Lib.hid hval
    have HB := Lib.hid hbel
    clear hval hbel
    by_cases hlt : k < N
    · have hkr : k < r.length := by rw [HN.out]; exact hlt
      obtain ⟨b, off, rfl, hrow⟩ := HAT.out.resolve_left (by rintro e; rw [e] at hkr; simp at hkr)
      have hat := (hrow.at_ k hkr).later hrow.blk HB.out
      have k0 := hat.k
      have k1 := hat.n
      have k2 := hat.t
      have hbl := Nat.lt_of_lt_of_le hrow.blk HB.out.size
      have hsi := step_ix k (by omega)
      have d2 : decide ((k : Int) < (N : Int)) = true := by simp; exact hlt
      have HVK := fun b (h : validB r[k] = b) => HVA
      obtain ⟨x, hx⟩ : ∃ x, x = r[k] := ⟨_, rfl⟩
      rw [← hx] at k0 k1 k2
      have HX := Lib.hid hx
      obtain ⟨xk, xn, xt⟩ := x
      have hvc := refValid_calls ⟨xk, xn, xt⟩
      have HBW := Lib.hid HB.out.size
      clear hat hrow hx HVK
      by_cases hvx : validB ⟨xk, xn, xt⟩ = true
      · rw [hvx] at hvc
        have HVC := Lib.hid hvc
        have HVX := Lib.hid hvx
        clear hvc hvx
        go_wp2_with fail
        refine (HVC.out _).mono ?_
        rintro e w2 ⟨rfl, hg⟩
        have HG := Lib.hid hg
        clear hg
        go_wp2
        go_roundw
        case rel => exact ⟨k + 1, by omega, by go_num, fun j h hj => by
            by_cases e : j = k
            · subst e; rw [← HX.out]; exact HVX.out
            · exact HVA.out j h (by omega), by
            exact (HB.out.alloc HBW.out _).trans (HG.out.below.mono (by have := HBW.out; simp; omega))⟩
        case measure => simp [intOf]; omega
      · have hvf : validB ⟨xk, xn, xt⟩ = false := by simpa using hvx
        rw [hvf] at hvc
        have HVC := Lib.hid hvc
        have HVX : Hid (validB r[k] = false) := by show _ = _; rw [← HX.out]; exact hvf
        have HKR := Lib.hid hkr
        clear hvc hvx hvf
        go_wp2_with fail
        refine (HVC.out _).mono ?_
        rintro e w2 ⟨rfl, hg⟩
        have HG := Lib.hid hg
        clear hg
        go_wp2
        go_ret2
        exact rowOut_bad HL.out k HKR.out HVX.out rfl ((HB.out.alloc HBW.out _).trans (HG.out.below.mono (by have := HBW.out; simp; omega)))
    · obtain rfl : k = N := by omega
      have HALL : Hid (∀ x ∈ r, validB x = true ∧ isI64 x.n) := by
        intro x hx
        refine ⟨?_, HNN.out x hx⟩
        obtain ⟨j, hj, rfl⟩ := List.mem_iff_getElem.1 hx
        exact HVA.out j hj (by rw [← HN.out]; exact hj)
      have d2 : decide ((k : Int) < (k : Int)) = false := by simp
      have hclip := fresh_calls v bs wr (HV.out.later HB.out) (by omega)
      have HCL := Lib.hid hclip
      have w1 : IntKind.u64.wrap (k : Int) = (k : Int) := by rw [IntKind.wrap_u64]; omega
      clear hclip HVA
      go_wp2_with fail
      refine HCL.out.mono ?_
      rintro e w2 ⟨v1, rfl, hat1, hb1⟩
      have HB1 := Lib.hid (HB.out.trans (hb1.mono HB.out.size))
      have happ := refUint_calls w.heap.size v1 bs k (by omega) w2 (.inl (hat1.mono HB.out.size)) HB1.out.size (by omega)
      have HAPP := Lib.hid happ
      clear happ hat1 hb1 HCL
      go_wp2_with fail
      refine HAPP.out.mono ?_
      rintro e w3 ⟨v2, rfl, ho2, hb2⟩
      have HO2 := Lib.hid ho2
      have HB2 := Lib.hid (HB1.out.trans hb2)
      clear ho2 hb2 HAPP
      go_wp2
      clear w1 d2
      go_loopw [8, 32] (fun vb i wq => ∃ j : Nat, j ≤ k ∧ i = .int .i64 j ∧ Own w.heap.size wq vb (bs ++ uvarint k ++ encVs (r.take j)) ∧ Below w.heap.size w wq) (fun _ i _ => k - (intOf i).toNat)
      case atStart => exact ⟨0, Nat.zero_le _, rfl, by simpa [encVs] using HO2.out, HB2.out⟩
      case round =>
        obtain ⟨j, hj, rfl, hoj, hbj⟩ := hrel
        have HOJ := Lib.hid hoj
        have HBJ := Lib.hid hbj
        clear hoj hbj
        by_cases hlt2 : j < k
        · have hjr : j < r.length := by rw [HN.out]; exact hlt2
          obtain ⟨b, off, rfl, hrow⟩ := HAT.out.resolve_left (by rintro e; rw [e] at hjr; simp at hjr)
          have hat := (hrow.at_ j hjr).later hrow.blk HBJ.out
          have k0 := hat.k
          have k1 := hat.n
          have k2 := hat.t
          have hbl := Nat.lt_of_lt_of_le hrow.blk HBJ.out.size
          have hsi := step_ix j (by omega)
          have d3 : decide ((j : Int) < (k : Int)) = true := by simp; exact hlt2
          obtain ⟨x, hx⟩ : ∃ x, x = r[j] := ⟨_, rfl⟩
          have hxm : x ∈ r := by rw [hx]; exact List.getElem_mem hjr
          rw [← hx] at k0 k1 k2
          have HX : Hid (r.take (j + 1) = r.take j ++ [x]) := by show _ = _; rw [take_snoc' hjr, hx]
          have hlen : (bs ++ uvarint k ++ encVs (r.take j)).length + 100 ≤ 140737488355328 := by
            have h1 := Go.Lib.uvarint_length64 (x := k) (by omega)
            have h2 := encVs_len (l := r.take j) (fun y hy => HALL.out y (List.mem_of_mem_take hy))
            have h3 : (r.take j).length ≤ 12 := by rw [List.length_take, HN.out]; omega
            simp only [List.length_append]; omega
          obtain ⟨xk, xn, xt⟩ := x
          have hav := refValue_calls w.heap.size u8 (bs ++ uvarint k ++ encVs (r.take j)) ⟨xk, xn, xt⟩ (HALL.out _ hxm).1 (HALL.out _ hxm).2 (wr.alloc (.cells #[.int .i64 xk, .int .i64 xn, .string xt] 35)) (.inl (HOJ.out.alloc _)) (by have := HBJ.out.size; simp; omega) hlen
          have HAV := Lib.hid hav
          have HBW := Lib.hid HBJ.out.size
          clear hat hrow hx hxm hav hlen
          go_wp2_with fail
          refine HAV.out.mono ?_
          rintro e w5 ⟨v5, rfl, ho5, hb5⟩
          have HO5 := Lib.hid ho5
          have HB5 := Lib.hid hb5
          clear ho5 hb5
          go_wp2
          go_roundw
          case rel => exact ⟨j + 1, by omega, by go_num, by rw [HX.out, encVs_snoc, ← List.append_assoc]; exact HO5.out, (HBJ.out.alloc HBW.out _).trans HB5.out⟩
          case measure => simp [intOf]; omega
        · obtain rfl : j = k := by omega
          have d3 : decide ((j : Int) < (j : Int)) = false := by simp
          go_wp2
          go_ret2
          exact rowOut_good HL.out (List.all_eq_true.2 fun x hx => (HALL.out x hx).1) rfl (by
            have := HOJ.out
            rw [List.take_of_length_le (by rw [HN.out]; exact Nat.le_refl _)] at this
            unfold encR
            rw [HN.out, ← List.append_assoc]
            exact this) HBJ.out
theorem refAppendRow_calls (v vr : Value) (bs : List UInt8) (r : List V) (w : World) (hv : BytesAt w v bs) (hl : bs.length ≤ 100000000000) (hr : RowAt w vr r) (hn : ∀ x ∈ r, isI64 x.n) : Calls Try.prog 30 #[v, vr] w (RowOut bs r w) := by
  by_cases h : 12 < r.length
  · exact refAppendRow_long v vr bs r w hr h
  · exact refAppendRow_short v vr bs r w hv hl hr hn (by omega)
end Go.Proofs.Ytllakifmflploaa
