/- The contract of the reference's Next. -/
import Derived.Test.YtmjokpakekfkfaaA5
set_option linter.unusedSimpArgs false
set_option linter.unusedVariables false
namespace Go.Proofs.Ytmjokpakekfkfaa
open Go.RowKit

theorem refNext_invalid (v : V) (hv : validB v = false) (w : World) : Calls Try.prog 55 #[v.val] w fun e w' => e = .returned (both none) ∧ Gro w w' := by
  obtain ⟨k, n, t⟩ := v
  have Hv := Lib.hid hv
  clear hv
  go_enter Try.func55, Try.ntmps55
  go_wp2_with (go_at_call 44; refine (wide (refValid_calls ⟨k, n, t⟩ _)).mono ?_; rw [Hv.out]; rintro e w' ⟨q, os, rfl, rfl⟩)
  exact bodyPost_ret (v := both none) (by simp [results, Try.results55, go_sem, V.val, both, zeroV]; try rfl) rfl ⟨rfl, (((Gro.refl _).alloc _).alloc _).grown _ _⟩

theorem refNext_missing (w : World) : Calls Try.prog 55 #[V.val ⟨1, 0, ByteArray.empty⟩] w fun e w' => e = .returned (both (some ⟨2, 0, ByteArray.empty⟩)) ∧ Gro w w' := by
  have Hv : Hid (validB ⟨1, 0, ByteArray.empty⟩ = true) := by show _ = _; simp [validB, validP]
  go_enter Try.func55, Try.ntmps55
  go_wp2_with (go_at_call 44; refine (wide (refValid_calls ⟨1, 0, ByteArray.empty⟩ _)).mono ?_; rw [Hv.out]; rintro e w' ⟨q, os, rfl, rfl⟩)
  exact bodyPost_ret (v := both (some ⟨2, 0, ByteArray.empty⟩)) (by simp [results, Try.results55, go_sem, V.val, both]; try rfl) rfl ⟨rfl, (((Gro.refl _).alloc _).alloc _).grown _ _⟩

theorem refNext_hidden (w : World) : Calls Try.prog 55 #[V.val ⟨2, 0, ByteArray.empty⟩] w fun e w' => e = .returned (both (some ⟨3, 0, ByteArray.empty⟩)) ∧ Gro w w' := by
  have Hv : Hid (validB ⟨2, 0, ByteArray.empty⟩ = true) := by show _ = _; simp [validB, validP]
  go_enter Try.func55, Try.ntmps55
  go_wp2_with (go_at_call 44; refine (wide (refValid_calls ⟨2, 0, ByteArray.empty⟩ _)).mono ?_; rw [Hv.out]; rintro e w' ⟨q, os, rfl, rfl⟩)
  exact bodyPost_ret (v := both (some ⟨3, 0, ByteArray.empty⟩)) (by simp [results, Try.results55, go_sem, V.val, both]; try rfl) rfl ⟨rfl, (((Gro.refl _).alloc _).alloc _).grown _ _⟩

theorem refNext_false (w : World) : Calls Try.prog 55 #[V.val ⟨3, 0, ByteArray.empty⟩] w fun e w' => e = .returned (both (some ⟨3, 1, ByteArray.empty⟩)) ∧ Gro w w' := by
  have Hv : Hid (validB ⟨3, 0, ByteArray.empty⟩ = true) := by show _ = _; simp [validB, validP]
  go_enter Try.func55, Try.ntmps55
  go_wp2_with (go_at_call 44; refine (wide (refValid_calls ⟨3, 0, ByteArray.empty⟩ _)).mono ?_; rw [Hv.out]; rintro e w' ⟨q, os, rfl, rfl⟩)
  exact bodyPost_ret (v := both (some ⟨3, 1, ByteArray.empty⟩)) (by simp [results, Try.results55, go_sem, V.val, both]; try rfl) rfl ⟨rfl, (((Gro.refl _).alloc _).alloc _).grown _ _⟩

theorem refNext_true (w : World) : Calls Try.prog 55 #[V.val ⟨3, 1, ByteArray.empty⟩] w fun e w' => e = .returned (both (some ⟨4, -9223372036854775808, ByteArray.empty⟩)) ∧ Gro w w' := by
  have Hv : Hid (validB ⟨3, 1, ByteArray.empty⟩ = true) := by show _ = _; simp [validB, validP]
  go_enter Try.func55, Try.ntmps55
  go_wp2_with (go_at_call 44; refine (wide (refValid_calls ⟨3, 1, ByteArray.empty⟩ _)).mono ?_; rw [Hv.out]; rintro e w' ⟨q, os, rfl, rfl⟩)
  exact bodyPost_ret (v := both (some ⟨4, -9223372036854775808, ByteArray.empty⟩)) (by simp [results, Try.results55, go_sem, V.val, both]; try rfl) rfl ⟨rfl, (((Gro.refl _).alloc _).alloc _).grown _ _⟩

set_option maxRecDepth 100000 in
theorem refNext_int (n : Int) (h0 : -9223372036854775808 ≤ n) (w : World) : Calls Try.prog 55 #[V.val ⟨4, n, ByteArray.empty⟩] w fun e w' => e = .returned (both (nextV ⟨4, n, ByteArray.empty⟩)) ∧ Gro w w' := by
  have Hv : Hid (validB ⟨4, n, ByteArray.empty⟩ = true) := by show _ = _; simp [validB, validP]
  by_cases h : n < 9223372036854775807
  · have E1 : Hid (both (nextV ⟨4, n, ByteArray.empty⟩) = both (some ⟨4, n + 1, ByteArray.empty⟩)) := by show _ = _; rw [nextV_int h]
    have E2 : Hid (wrap64 (n + 1) = n + 1) := wrap_next n h0 h
    have hd : decide (n < 9223372036854775807) = true := by simpa using h
    clear h h0
    go_enter Try.func55, Try.ntmps55
    go_wp2_with (go_at_call 44; refine (wide (refValid_calls ⟨4, n, ByteArray.empty⟩ _)).mono ?_; rw [Hv.out]; rintro e w' ⟨q, os, rfl, rfl⟩)
    exact bodyPost_ret (v := both (some ⟨4, wrap64 (n + 1), ByteArray.empty⟩)) (by simp [results, Try.results55, go_sem, V.val, both]; try rfl) rfl ⟨by rw [E1.out, E2.out], (((Gro.refl _).alloc _).alloc _).grown _ _⟩
  · have E1 : Hid (both (nextV ⟨4, n, ByteArray.empty⟩) = both (some ⟨5, 0, ByteArray.empty⟩)) := by show _ = _; rw [nextV_last h]
    have hd : decide (n < 9223372036854775807) = false := by simpa using h
    clear h h0
    go_enter Try.func55, Try.ntmps55
    go_wp2_with (go_at_call 44; refine (wide (refValid_calls ⟨4, n, ByteArray.empty⟩ _)).mono ?_; rw [Hv.out]; rintro e w' ⟨q, os, rfl, rfl⟩)
    exact bodyPost_ret (v := both (some ⟨5, 0, ByteArray.empty⟩)) (by simp [results, Try.results55, go_sem, V.val, both]; try rfl) rfl ⟨by rw [E1.out], (((Gro.refl _).alloc _).alloc _).grown _ _⟩

theorem mod_u8 (x : UInt8) (h : (x.toNat : Int) < 255) : ((x.toNat : Int) + 1) % 256 = ((x + 1).toNat : Int) := by
  have : (x + 1).toNat = x.toNat + 1 := by rw [UInt8.toNat_add]; simp; omega
  rw [this]
  omega
set_option maxRecDepth 100000 in
theorem refNext_text (t : ByteArray) (ht : t.size ≤ 64) (w : World) : Calls Try.prog 55 #[V.val ⟨5, 0, t⟩] w fun e w' => e = .returned (both (nextTV t)) ∧ Gro w w' := by
  have mx := mixed
  have Hv : Hid (validB ⟨5, 0, t⟩ = true) := by show _ = _; simp [validB, validP, ht]
  by_cases h : t.size < 64
  · have e1 : both (nextTV t) = .tuple #[V.val ⟨5, 0, more t⟩, .bool true] := by simp [nextTV, nextT, h, both]
    rw [e1]
    clear e1
    have h' : decide ((t.size : Int) < 64) = true := by simp; omega
    go_enter Try.func55, Try.ntmps55
    go_wp2_with (go_at_call 44; refine (wide (refValid_calls ⟨5, 0, t⟩ _)).mono ?_; rw [Hv.out]; rintro e w' ⟨q, os, rfl, rfl⟩)
    exact bodyPost_ret (v := .tuple #[V.val ⟨5, 0, more t⟩, .bool true]) (by simp [results, Try.results55, go_sem, V.val, more]; try rfl) rfl ⟨rfl, (((Gro.refl _).alloc _).alloc _).grown _ _⟩
  · have h' : decide ((t.size : Int) < 64) = false := by simp; omega
    go_enter Try.func55, Try.ntmps55
    go_wp2_with (go_at_call 44; refine (wide (refValid_calls ⟨5, 0, t⟩ _)).mono ?_; rw [Hv.out]; rintro e w' ⟨q, os, rfl, rfl⟩)
    go_loop [4] (fun i => ∃ m : Nat, m ≤ t.size ∧ i = .int .i64 (m : Int) ∧ lastLow t.data.toList m = lastLow t.data.toList t.size) (fun i => (intOf i).toNat)
    case atStart => exact ⟨t.size, Nat.le_refl _, rfl, rfl⟩
    case round =>
      obtain ⟨m, hm, rfl, hl⟩ := hrel
      have HL := Lib.hid hl
      clear hl
      rcases m with _ | m
      · have e1 : both (nextTV t) = .tuple #[V.val ⟨0, 0, ByteArray.empty⟩, .bool false] := by
          have e2 := HL.out
          simp only [lastLow] at e2
          simp [both, nextTV, nextT, h, ← e2, zeroV]
        have E1 := Lib.hid e1
        clear e1
        rw [show ((0 : Nat) : Int) = 0 from rfl]
        go_wp2
        exact bodyPost_ret (v := .tuple #[V.val ⟨0, 0, ByteArray.empty⟩, .bool false]) (by simp [results, Try.results55, go_sem, V.val]; try rfl) rfl ⟨by rw [E1.out], (((Gro.refl _).alloc _).alloc _).grown _ _⟩
      · have hlt : m < t.size := hm
        have hpos : decide (0 < ((m + 1 : Nat) : Int)) = true := by simp <;> omega
        clear hm
        go_wp2_with fail
        · have hx : (((t[m].toNat : Int)) == 255) = true := by assumption
          have heq : t.data.toList.getD m 0 = 255 := by
            rw [getD_at t m hlt]
            apply UInt8.toNat_inj.1
            simp at hx
            simp
            omega
          refine ⟨⟨m, by omega, rfl, ?_⟩, by simp [intOf] <;> omega⟩
          have e2 := HL.out
          simp only [lastLow] at e2
          rw [if_pos heq] at e2
          exact e2
        · have hx : (((t[m].toNat : Int)) == 255) = false := by assumption
          have hx2 : (t[m].toNat : Int) < 255 := by
            have := t[m].toNat_lt
            simp at hx
            omega
          have hne : ¬ t.data.toList.getD m 0 = 255 := by rw [getD_at t m hlt]; intro h; rw [h] at hx2; simp at hx2
          have e1 : both (nextTV t) = .tuple #[V.val ⟨5, 0, t.extract 0 m ++ ⟨#[t[m] + 1]⟩⟩, .bool true] := by
            have e2 := HL.out
            simp only [lastLow] at e2
            rw [if_neg hne] at e2
            have hb : bump t m = t.extract 0 m ++ ⟨#[t[m] + 1]⟩ := by unfold bump; rw [getD_at t m hlt]
            simp [both, nextTV, nextT, h, ← e2, hb]
          have E1 := Lib.hid e1
          clear e1 hne
          obtain ⟨W, hW⟩ : ∃ W, W = Sort.grow (((w.alloc (.cells #[.int .i64 5, .int .i64 0, .string t] 25)).alloc (.cells #[.int .i64 0, .int .i64 0, .string ⟨#[]⟩] 25)).drewN q) os := ⟨_, rfl⟩
          rw [← hW]
          have k2 : W.cell? ⟨w.heap.size, 2, none⟩ = some (.string t) := by rw [hW]; go_simp
          have r0 : W.cell? ⟨w.heap.size + 1, 0, none⟩ = some (.int .i64 0) := by rw [hW]; go_simp
          have r1 : W.cell? ⟨w.heap.size + 1, 1, none⟩ = some (.int .i64 0) := by rw [hW]; go_simp
          have r2 : W.cell? ⟨w.heap.size + 1, 2, none⟩ = some (.string ⟨#[]⟩) := by rw [hW]; go_simp
          have f0 : W.frozen? ⟨w.heap.size + 1, 0, none⟩ = false := by rw [hW]; go_simp
          have f1 : W.frozen? ⟨w.heap.size + 1, 1, none⟩ = false := by rw [hW]; go_simp
          have f2 : W.frozen? ⟨w.heap.size + 1, 2, none⟩ = false := by rw [hW]; go_simp
          have sz : w.heap.size + 1 < W.heap.size := by rw [hW]; simp [World.drewN]; omega
          have sz0 : w.heap.size < W.heap.size := by omega
          have hg : Gro w W := by rw [hW]; exact (((Gro.refl _).alloc _).alloc _).grown _ _
          have HG := Lib.hid hg
          have HX2 := Lib.hid hx2
          have hle : m ≤ t.size := by omega
          have e3 : ((m : Int) + 1 - 1) = (m : Int) := by omega
          have hconv : (convert 22 9 (.slice (some ⟨W.heap.size, 0, none⟩) 1 1)).run Try.prog ((W.alloc (.cells #[.int .u8 (((t[m].toNat : Int) + 1) % 256)] 5)).drew) = .ok (.string ⟨#[t[m] + 1]⟩) ((W.alloc (.cells #[.int .u8 (((t[m].toNat : Int) + 1) % 256)] 5)).drew) :=
            conv_one _ _ _ (by rw [mod_u8 _ hx2]; go_simp)
          clear hW hg hx2
          go_region
          clear hconv
          go_wp2
          exact bodyPost_ret (v := .tuple #[V.val ⟨5, 0, t.extract 0 m ++ ⟨#[t[m] + 1]⟩⟩, .bool true]) (by simp [results, Try.results55, go_sem, V.val, r0, r1, r2, sz]; try rfl) rfl ⟨by rw [E1.out], ((((HG.out.setCell (Nat.le_succ _) _).setCell (Nat.le_succ _) _).setCell (Nat.le_succ _) _).alloc _).drew⟩

theorem refNext_calls (v : V) (h0 : -9223372036854775808 ≤ v.n) (w : World) : Calls Try.prog 55 #[v.val] w fun e w' => e = .returned (both (nextV v)) ∧ Gro w w' := by
  by_cases hv : validB v = true
  · have hp : validP v := by simpa [validB] using hv
    obtain ⟨k, n, t⟩ := v
    rcases hp with ⟨hk, hn, ht⟩ | ⟨hk, hn, ht⟩ | ⟨hk, ht⟩ | ⟨hk, hn, ht⟩
    · simp only at hk hn ht
      subst hn ht
      rcases hk with hk | hk
      · subst hk; exact refNext_missing w
      · subst hk; exact refNext_hidden w
    · simp only at hk hn ht
      subst hk ht
      rcases hn with hn | hn
      · subst hn; exact refNext_false w
      · subst hn; exact refNext_true w
    · simp only at hk ht
      subst hk ht
      exact refNext_int n h0 w
    · simp only at hk hn ht
      subst hk hn
      rw [nextV_text hv]
      exact refNext_text t ht w
  · simp only [Bool.not_eq_true] at hv
    rw [nextV_invalid hv]
    exact refNext_invalid v hv w
end Go.Proofs.Ytmjokpakekfkfaa
