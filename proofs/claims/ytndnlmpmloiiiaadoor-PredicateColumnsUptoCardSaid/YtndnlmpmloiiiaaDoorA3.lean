/- The contracts of value.Compare, value.First and their references. -/
import Derived.Test.YtndnlmpmloiiiaaDoorA2
import Derived.StillTailTactics
set_option linter.unusedSimpArgs false
set_option linter.unusedVariables false
namespace Go.Proofs.YtndnlmpmloiiiaaDoor
open Go.RowKit

/-- What both First's return. -/
def firstV (k : Int) : V := if k = 4 then ⟨4, -9223372036854775808, ByteArray.empty⟩ else if k = 1 ∨ k = 2 ∨ k = 3 ∨ k = 5 then ⟨k, 0, ByteArray.empty⟩ else ⟨0, 0, ByteArray.empty⟩
def firstB (k : Int) : Bool := decide (k = 1 ∨ k = 2 ∨ k = 3 ∨ k = 4 ∨ k = 5)

/-- The first of three numbers that is not 0. -/
def or3 (a b c : Int) : Int := if a = 0 then (if b = 0 then c else b) else a
theorem cmp_or (a b c : Int) (blk : Nat) (w : World) (h0 : w.cell? ⟨blk, 0, none⟩ = some (.int .i64 a)) (h1 : w.cell? ⟨blk, 1, none⟩ = some (.int .i64 b)) (h2 : w.cell? ⟨blk, 2, none⟩ = some (.int .i64 c)) :
    Calls Tryd.prog 83 #[.slice (some ⟨blk, 0, none⟩) 3 3] w fun e w' => e = .returned (.int .i64 (or3 a b c)) ∧ w = w' := by
  go_enter Tryd.func83, Tryd.ntmps83
  go_wp2
  go_loop [5, 8] (fun _ i => ∃ k : Nat, k ≤ 3 ∧ i = .int .i64 k ∧ (1 ≤ k → a = 0) ∧ (2 ≤ k → b = 0) ∧ (3 ≤ k → c = 0)) (fun _ i => 3 - (intOf i).toNat)
  case atStart => exact ⟨0, by omega, rfl, by omega, by omega, by omega⟩
  case round =>
    obtain ⟨k, hk, rfl, ha, hb, hc⟩ := hrel
    obtain rfl | rfl | rfl | rfl : k = 0 ∨ k = 1 ∨ k = 2 ∨ k = 3 := by omega
    · clear ha hb hc
      by_cases e : a = 0
      · subst e
        go_wp2
        go_round
        case rel => exact ⟨1, by omega, by go_num, by simp, by simp, by simp⟩
        case measure => simp [intOf]
      · have e' : (a != 0) = true := by simpa using e
        have F : Hid (a = or3 a b c) := by show _ = _; unfold or3; rw [if_neg e]
        clear e
        go_wp2
        go_ret
        exact ⟨ret_i F.out, rfl⟩
    · have ea := ha (by omega)
      clear ha hb hc
      subst ea
      by_cases e : b = 0
      · subst e
        go_wp2
        go_round
        case rel => exact ⟨2, by omega, by go_num, by simp, by simp, by simp⟩
        case measure => simp [intOf]
      · have e' : (b != 0) = true := by simpa using e
        have F : Hid (b = or3 0 b c) := by show _ = _; unfold or3; rw [if_pos rfl, if_neg e]
        clear e
        go_wp2
        go_ret
        exact ⟨ret_i F.out, rfl⟩
    · have ea := ha (by omega)
      have eb := hb (by omega)
      clear ha hb hc
      subst ea eb
      by_cases e : c = 0
      · subst e
        go_wp2
        go_round
        case rel => exact ⟨3, by omega, by go_num, by simp, by simp, by simp⟩
        case measure => simp [intOf]
      · have e' : (c != 0) = true := by simpa using e
        have F : Hid (c = or3 0 0 c) := by show _ = _; unfold or3; simp
        clear e
        go_wp2
        go_ret
        exact ⟨ret_i F.out, rfl⟩
    · have ea := ha (by omega)
      have eb := hb (by omega)
      have ec := hc (by omega)
      clear ha hb hc
      subst ea eb ec
      go_wp2
      go_ret
      exact ⟨ret_i rfl, rfl⟩

theorem or3_cmp (k n k' n' : Int) (t t' : ByteArray) : or3 (cmpI k k') (cmpI n n') (cmpS t t') = cmpV ⟨k, n, t⟩ ⟨k', n', t'⟩ := rfl

set_option maxRecDepth 100000 in
set_option maxHeartbeats 1000000 in
theorem compare_calls (a b : V) (w : World) : Calls Tryd.prog 65 #[a.val, b.val] w fun e w' => e = .returned (.int .i64 (cmpV a b)) ∧ Gro w w' := by
  obtain ⟨k, n, t⟩ := a
  obtain ⟨k', n', t'⟩ := b
  have mx := mixed
  have he := eql_V
  by_cases h : (⟨k, n, t⟩ : V) = ⟨k', n', t'⟩
  · simp only [V.mk.injEq] at h
    obtain ⟨rfl, rfl, rfl⟩ := h
    go_enter Tryd.func65, Tryd.ntmps65
    go_wp2
    go_ret
    exact ⟨ret_i (goodV.self _).symm, ((Gro.refl _).alloc _).alloc _⟩
  · have hd : decide ((⟨k, n, t⟩ : V) = ⟨k', n', t'⟩) = false := by simpa using h
    have he1 := fun w => (he k n k' n' t t' w).trans (by rw [hd])
    clear he hd h
    go_enter Tryd.func65, Tryd.ntmps65
    go_wp2_with fail
    have st1 : ∀ (a b : Int) (w : World), Calls Tryd.prog 84 #[.int .i64 a, .int .i64 b] w fun e w' => e = .returned (.int .i64 (cmpI a b)) ∧ w' = w := fun a b w => (compare_int a b w).mono fun _ _ ⟨h, h'⟩ => ⟨h, h'.symm⟩
    have st2 : ∀ (a b : Int) (w : World), Calls Tryd.prog 85 #[.int .i64 a, .int .i64 b] w fun e w' => e = .returned (.int .i64 (cmpI a b)) ∧ w' = w := fun a b w => (compare_int64 a b w).mono fun _ _ ⟨h, h'⟩ => ⟨h, h'.symm⟩
    have st3 : ∀ (a b : ByteArray) (w : World), Calls Tryd.prog 86 #[.string a, .string b] w fun e w' => e = .returned (.int .i64 (cmpS a b)) ∧ w' = w := fun a b w => (compare_string a b w).mono fun _ _ ⟨h, h'⟩ => ⟨h, h'.symm⟩
    refine still_tail_drew 15 mx (by kernel_rfl) ?_
    simp only [List.take_succ_cons, List.take_zero, List.drop_succ_cons, List.drop_zero]
    repeat still_step
    still_call (st1 _ _ _)
    repeat still_step
    still_call (st2 _ _ _)
    repeat still_step
    still_call (st3 _ _ _)
    repeat still_step
    refine wpStill_nil ?_
    go_wp2_with fail
    refine (cmp_or (cmpI k k') (cmpI n n') (cmpS t t') _ _ (by go_simp) (by go_simp) (by go_simp)).mono ?_
    rintro e w1 ⟨rfl, rfl⟩
    go_wp2
    go_ret
    exact ⟨ret_i (or3_cmp k n k' n' t t'), (((Gro.refl _).alloc _).alloc _).drew.alloc _⟩

theorem refCompare_calls (a b : V) (w : World) : Calls Tryd.prog 69 #[a.val, b.val] w fun e w' => e = .returned (.int .i64 (cmpV a b)) ∧ Gro w w' := by
  obtain ⟨k, n, t⟩ := a
  obtain ⟨k', n', t'⟩ := b
  by_cases h1 : k < k'
  · have F : Hid (cmpV ⟨k, n, t⟩ ⟨k', n', t'⟩ = -1) := by show _ = _; unfold cmpV cmpI; simp only; rw [if_pos h1]; simp
    go_enter Tryd.func69, Tryd.ntmps69
    go_wp2
    go_ret
    exact ⟨ret_i F.out.symm, ((Gro.refl _).alloc _).alloc _⟩
  by_cases h2 : k' < k
  · have F : Hid (cmpV ⟨k, n, t⟩ ⟨k', n', t'⟩ = 1) := by show _ = _; unfold cmpV cmpI; simp only; rw [if_neg h1, if_pos h2]; simp
    go_enter Tryd.func69, Tryd.ntmps69
    go_wp2
    go_ret
    exact ⟨ret_i F.out.symm, ((Gro.refl _).alloc _).alloc _⟩
  obtain rfl : k = k' := by omega
  clear h1 h2
  by_cases h1 : n < n'
  · have F : Hid (cmpV ⟨k, n, t⟩ ⟨k, n', t'⟩ = -1) := by show _ = _; unfold cmpV; simp only; rw [goodI.self]; unfold cmpI; rw [if_pos h1]; simp
    go_enter Tryd.func69, Tryd.ntmps69
    go_wp2
    go_ret
    exact ⟨ret_i F.out.symm, ((Gro.refl _).alloc _).alloc _⟩
  by_cases h2 : n' < n
  · have F : Hid (cmpV ⟨k, n, t⟩ ⟨k, n', t'⟩ = 1) := by show _ = _; unfold cmpV; simp only; rw [goodI.self]; unfold cmpI; rw [if_neg h1, if_pos h2]; simp
    go_enter Tryd.func69, Tryd.ntmps69
    go_wp2
    go_ret
    exact ⟨ret_i F.out.symm, ((Gro.refl _).alloc _).alloc _⟩
  obtain rfl : n = n' := by omega
  clear h1 h2
  have fs : cmpV ⟨k, n, t⟩ ⟨k, n, t'⟩ = cmpS t t' := by unfold cmpV; simp only; rw [goodI.self, goodI.self]; simp
  have hr := goodS.range t t'
  rw [fs]
  clear fs
  by_cases h1 : cmpS t t' < 0
  · have l1 := less_T h1
    have F : Hid (cmpS t t' = -1) := by show _ = _; omega
    clear hr h1
    go_enter Tryd.func69, Tryd.ntmps69
    go_wp2
    go_ret
    exact ⟨ret_i F.out.symm, ((Gro.refl _).alloc _).alloc _⟩
  have l1 := less_F h1
  by_cases h2 : cmpS t t' = 0
  · have l2 := eq_T h2
    have F := Lib.hid h2
    clear hr h1 h2
    go_enter Tryd.func69, Tryd.ntmps69
    go_wp2
    go_ret
    exact ⟨ret_i F.out.symm, ((Gro.refl _).alloc _).alloc _⟩
  · have l2 := eq_F h2
    have F : Hid (cmpS t t' = 1) := by show _ = _; omega
    clear hr h1 h2
    go_enter Tryd.func69, Tryd.ntmps69
    go_wp2
    go_ret
    exact ⟨ret_i F.out.symm, ((Gro.refl _).alloc _).alloc _⟩
end Go.Proofs.YtndnlmpmloiiiaaDoor
