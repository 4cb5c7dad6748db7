import Derived.Test.YtmjokpakekfkfaaForms1
import Derived.StillTailTactics
import Derived.OwnWalk
import Derived.Laws.OwnMore
import Derived.Laws.CopyRow
import Derived.Deep.OwnRows
import Derived.RegionTactic
import Derived.ChangeAlike
import Derived.IntWalk
import Derived.BigRegion
import Derived.Laws.IdiomStrings
/- The contracts of value.Compare, value.First and their references. -/
set_option linter.unusedSimpArgs false
set_option linter.unusedVariables false
namespace Go.Proofs.Ytmjokpakekfkfaa
open Go.RowKit

/-- What both First's return. -/
def firstV (k : Int) : V := if k = 4 then ⟨4, -9223372036854775808, ByteArray.empty⟩ else if k = 1 ∨ k = 2 ∨ k = 3 ∨ k = 5 then ⟨k, 0, ByteArray.empty⟩ else ⟨0, 0, ByteArray.empty⟩
def firstB (k : Int) : Bool := decide (k = 1 ∨ k = 2 ∨ k = 3 ∨ k = 4 ∨ k = 5)

theorem first_calls (k : Int) (w : World) : Calls Try.prog 69 #[.int .i64 k] w fun e w' => e = .returned (.tuple #[(firstV k).val, .bool (firstB k)]) ∧ Gro w w' := by
  by_cases h4 : k = 4
  · subst h4
    go_enter Try.func69, Try.ntmps69
    go_wp2_with (go_at_call 62; refine (wide (integer_calls _ _)).mono ?_; rintro e w' ⟨q, os, rfl, rfl⟩)
    exact bodyPost_ret (v := .tuple #[(firstV 4).val, .bool (firstB 4)]) (by simp [results, Try.results69, go_sem, firstV, firstB, V.val]; try rfl) rfl ⟨rfl, by first | exact (Gro.refl _).alloc _ | exact ((Gro.refl _).alloc _).grown _ _⟩
  by_cases h1 : k = 1
  · subst h1
    go_enter Try.func69, Try.ntmps69
    go_wp2_with (go_at_call 62; refine (wide (integer_calls _ _)).mono ?_; rintro e w' ⟨q, os, rfl, rfl⟩)
    exact bodyPost_ret (v := .tuple #[(firstV 1).val, .bool (firstB 1)]) (by simp [results, Try.results69, go_sem, firstV, firstB, V.val]; try rfl) rfl ⟨rfl, by first | exact (Gro.refl _).alloc _ | exact ((Gro.refl _).alloc _).grown _ _⟩
  by_cases h2 : k = 2
  · subst h2
    go_enter Try.func69, Try.ntmps69
    go_wp2_with (go_at_call 62; refine (wide (integer_calls _ _)).mono ?_; rintro e w' ⟨q, os, rfl, rfl⟩)
    exact bodyPost_ret (v := .tuple #[(firstV 2).val, .bool (firstB 2)]) (by simp [results, Try.results69, go_sem, firstV, firstB, V.val]; try rfl) rfl ⟨rfl, by first | exact (Gro.refl _).alloc _ | exact ((Gro.refl _).alloc _).grown _ _⟩
  by_cases h3 : k = 3
  · subst h3
    go_enter Try.func69, Try.ntmps69
    go_wp2_with (go_at_call 62; refine (wide (integer_calls _ _)).mono ?_; rintro e w' ⟨q, os, rfl, rfl⟩)
    exact bodyPost_ret (v := .tuple #[(firstV 3).val, .bool (firstB 3)]) (by simp [results, Try.results69, go_sem, firstV, firstB, V.val]; try rfl) rfl ⟨rfl, by first | exact (Gro.refl _).alloc _ | exact ((Gro.refl _).alloc _).grown _ _⟩
  by_cases h5 : k = 5
  · subst h5
    go_enter Try.func69, Try.ntmps69
    go_wp2_with (go_at_call 62; refine (wide (integer_calls _ _)).mono ?_; rintro e w' ⟨q, os, rfl, rfl⟩)
    exact bodyPost_ret (v := .tuple #[(firstV 5).val, .bool (firstB 5)]) (by simp [results, Try.results69, go_sem, firstV, firstB, V.val]; try rfl) rfl ⟨rfl, by first | exact (Gro.refl _).alloc _ | exact ((Gro.refl _).alloc _).grown _ _⟩
  have hv : firstV k = ⟨0, 0, ByteArray.empty⟩ := by simp [firstV, *]
  have hb : firstB k = false := by simp [firstB, *]
  rw [hv, hb]
  clear hv hb
  go_enter Try.func69, Try.ntmps69
  go_wp2
  exact bodyPost_ret (v := .tuple #[V.val ⟨0, 0, ByteArray.empty⟩, .bool false]) (by simp [results, Try.results69, go_sem, V.val]; try rfl) rfl ⟨rfl, (Gro.refl _).alloc _⟩

/-- The first of three numbers that is not 0. -/
def or3 (a b c : Int) : Int := if a = 0 then (if b = 0 then c else b) else a
theorem cmp_or (a b c : Int) (blk : Nat) (w : World) (h0 : w.cell? ⟨blk, 0, none⟩ = some (.int .i64 a)) (h1 : w.cell? ⟨blk, 1, none⟩ = some (.int .i64 b)) (h2 : w.cell? ⟨blk, 2, none⟩ = some (.int .i64 c)) :
    Calls Try.prog 65 #[.slice (some ⟨blk, 0, none⟩) 3 3] w fun e w' => e = .returned (.int .i64 (or3 a b c)) ∧ w = w' := by
  go_enter Try.func65, Try.ntmps65
  go_wp2
  go_loop [5, 8] (fun _ i => ∃ k : Nat, k ≤ 3 ∧ i = .int .i64 k ∧ (1 ≤ k → a = 0) ∧ (2 ≤ k → b = 0) ∧ (3 ≤ k → c = 0)) (fun _ i => 3 - (intOf i).toNat)
  case atStart => exact ⟨0, by omega, rfl, by omega, by omega, by omega⟩
  case round =>
    obtain ⟨k, hk, rfl, ha, hb, hc⟩ := hrel
    obtain rfl | rfl | rfl | rfl : k = 0 ∨ k = 1 ∨ k = 2 ∨ k = 3 := by omega
    · clear ha hb hc
      by_cases e : a = 0
      · subst e
        go_wp2
        go_round
        case rel => exact ⟨1, by omega, by go_num, by simp, by simp, by simp⟩
        case measure => simp [intOf]
      · have e' : (a != 0) = true := by simpa using e
        have F : Hid (a = or3 a b c) := by show _ = _; unfold or3; rw [if_neg e]
        clear e
        go_wp2
        go_ret
        exact ⟨ret_i F.out, rfl⟩
    · have ea := ha (by omega)
      clear ha hb hc
      subst ea
      by_cases e : b = 0
      · subst e
        go_wp2
        go_round
        case rel => exact ⟨2, by omega, by go_num, by simp, by simp, by simp⟩
        case measure => simp [intOf]
      · have e' : (b != 0) = true := by simpa using e
        have F : Hid (b = or3 0 b c) := by show _ = _; unfold or3; rw [if_pos rfl, if_neg e]
        clear e
        go_wp2
        go_ret
        exact ⟨ret_i F.out, rfl⟩
    · have ea := ha (by omega)
      have eb := hb (by omega)
      clear ha hb hc
      subst ea eb
      by_cases e : c = 0
      · subst e
        go_wp2
        go_round
        case rel => exact ⟨3, by omega, by go_num, by simp, by simp, by simp⟩
        case measure => simp [intOf]
      · have e' : (c != 0) = true := by simpa using e
        have F : Hid (c = or3 0 0 c) := by show _ = _; unfold or3; simp
        clear e
        go_wp2
        go_ret
        exact ⟨ret_i F.out, rfl⟩
    · have ea := ha (by omega)
      have eb := hb (by omega)
      have ec := hc (by omega)
      clear ha hb hc
      subst ea eb ec
      go_wp2
      go_ret
      exact ⟨ret_i rfl, rfl⟩

theorem or3_cmp (k n k' n' : Int) (t t' : ByteArray) : or3 (cmpI k k') (cmpI n n') (cmpS t t') = cmpV ⟨k, n, t⟩ ⟨k', n', t'⟩ := rfl

set_option maxRecDepth 100000 in
set_option maxHeartbeats 1000000 in
theorem compare_calls (a b : V) (w : World) : Calls Try.prog 43 #[a.val, b.val] w fun e w' => e = .returned (.int .i64 (cmpV a b)) ∧ Gro w w' := by
  obtain ⟨k, n, t⟩ := a
  obtain ⟨k', n', t'⟩ := b
  have mx := mixed
  have he := eql_V
  by_cases h : (⟨k, n, t⟩ : V) = ⟨k', n', t'⟩
  · simp only [V.mk.injEq] at h
    obtain ⟨rfl, rfl, rfl⟩ := h
    go_enter Try.func43, Try.ntmps43
    go_wp2
    go_ret
    exact ⟨ret_i (goodV.self _).symm, ((Gro.refl _).alloc _).alloc _⟩
  · have hd : decide ((⟨k, n, t⟩ : V) = ⟨k', n', t'⟩) = false := by simpa using h
    have he1 := fun w => (he k n k' n' t t' w).trans (by rw [hd])
    clear he hd h
    go_enter Try.func43, Try.ntmps43
    go_wp2_with fail
    have st1 : ∀ (a b : Int) (w : World), Calls Try.prog 66 #[.int .i64 a, .int .i64 b] w fun e w' => e = .returned (.int .i64 (cmpI a b)) ∧ w' = w := fun a b w => (compare_int a b w).mono fun _ _ ⟨h, h'⟩ => ⟨h, h'.symm⟩
    have st2 : ∀ (a b : Int) (w : World), Calls Try.prog 67 #[.int .i64 a, .int .i64 b] w fun e w' => e = .returned (.int .i64 (cmpI a b)) ∧ w' = w := fun a b w => (compare_int64 a b w).mono fun _ _ ⟨h, h'⟩ => ⟨h, h'.symm⟩
    have st3 : ∀ (a b : ByteArray) (w : World), Calls Try.prog 68 #[.string a, .string b] w fun e w' => e = .returned (.int .i64 (cmpS a b)) ∧ w' = w := fun a b w => (compare_string a b w).mono fun _ _ ⟨h, h'⟩ => ⟨h, h'.symm⟩
    refine still_tail_drew 15 mx (by kernel_rfl) ?_
    simp only [List.take_succ_cons, List.take_zero, List.drop_succ_cons, List.drop_zero]
    repeat still_step
    still_call (st1 _ _ _)
    repeat still_step
    still_call (st2 _ _ _)
    repeat still_step
    still_call (st3 _ _ _)
    repeat still_step
    refine wpStill_nil ?_
    go_wp2_with fail
    refine (cmp_or (cmpI k k') (cmpI n n') (cmpS t t') _ _ (by go_simp) (by go_simp) (by go_simp)).mono ?_
    rintro e w1 ⟨rfl, rfl⟩
    go_wp2
    go_ret
    exact ⟨ret_i (or3_cmp k n k' n' t t'), (((Gro.refl _).alloc _).alloc _).drew.alloc _⟩

theorem refCompare_calls (a b : V) (w : World) : Calls Try.prog 29 #[a.val, b.val] w fun e w' => e = .returned (.int .i64 (cmpV a b)) ∧ Gro w w' := by
  obtain ⟨k, n, t⟩ := a
  obtain ⟨k', n', t'⟩ := b
  by_cases h1 : k < k'
  · have F : Hid (cmpV ⟨k, n, t⟩ ⟨k', n', t'⟩ = -1) := by show _ = _; unfold cmpV cmpI; simp only; rw [if_pos h1]; simp
    go_enter Try.func29, Try.ntmps29
    go_wp2
    go_ret
    exact ⟨ret_i F.out.symm, ((Gro.refl _).alloc _).alloc _⟩
  by_cases h2 : k' < k
  · have F : Hid (cmpV ⟨k, n, t⟩ ⟨k', n', t'⟩ = 1) := by show _ = _; unfold cmpV cmpI; simp only; rw [if_neg h1, if_pos h2]; simp
    go_enter Try.func29, Try.ntmps29
    go_wp2
    go_ret
    exact ⟨ret_i F.out.symm, ((Gro.refl _).alloc _).alloc _⟩
  obtain rfl : k = k' := by omega
  clear h1 h2
  by_cases h1 : n < n'
  · have F : Hid (cmpV ⟨k, n, t⟩ ⟨k, n', t'⟩ = -1) := by show _ = _; unfold cmpV; simp only; rw [goodI.self]; unfold cmpI; rw [if_pos h1]; simp
    go_enter Try.func29, Try.ntmps29
    go_wp2
    go_ret
    exact ⟨ret_i F.out.symm, ((Gro.refl _).alloc _).alloc _⟩
  by_cases h2 : n' < n
  · have F : Hid (cmpV ⟨k, n, t⟩ ⟨k, n', t'⟩ = 1) := by show _ = _; unfold cmpV; simp only; rw [goodI.self]; unfold cmpI; rw [if_neg h1, if_pos h2]; simp
    go_enter Try.func29, Try.ntmps29
    go_wp2
    go_ret
    exact ⟨ret_i F.out.symm, ((Gro.refl _).alloc _).alloc _⟩
  obtain rfl : n = n' := by omega
  clear h1 h2
  have fs : cmpV ⟨k, n, t⟩ ⟨k, n, t'⟩ = cmpS t t' := by unfold cmpV; simp only; rw [goodI.self, goodI.self]; simp
  have hr := goodS.range t t'
  rw [fs]
  clear fs
  by_cases h1 : cmpS t t' < 0
  · have l1 := less_T h1
    have F : Hid (cmpS t t' = -1) := by show _ = _; omega
    clear hr h1
    go_enter Try.func29, Try.ntmps29
    go_wp2
    go_ret
    exact ⟨ret_i F.out.symm, ((Gro.refl _).alloc _).alloc _⟩
  have l1 := less_F h1
  by_cases h2 : cmpS t t' = 0
  · have l2 := eq_T h2
    have F := Lib.hid h2
    clear hr h1 h2
    go_enter Try.func29, Try.ntmps29
    go_wp2
    go_ret
    exact ⟨ret_i F.out.symm, ((Gro.refl _).alloc _).alloc _⟩
  · have l2 := eq_F h2
    have F : Hid (cmpS t t' = 1) := by show _ = _; omega
    clear hr h1 h2
    go_enter Try.func29, Try.ntmps29
    go_wp2
    go_ret
    exact ⟨ret_i F.out.symm, ((Gro.refl _).alloc _).alloc _⟩
end Go.Proofs.Ytmjokpakekfkfaa

/- Rows in memory, and the contracts of slices.CompareFunc, value.CompareRows and the reference's CompareRows. -/
set_option linter.unusedSimpArgs false
set_option linter.unusedVariables false
namespace Go.Proofs.Ytmjokpakekfkfaa
open Go.RowKit

/-- The three cells of a value. -/
structure At (w : World) (b off : Nat) (v : V) : Prop where
  k : w.cell? ⟨b, off, none⟩ = some (.int .i64 v.k)
  n : w.cell? ⟨b, off + 1, none⟩ = some (.int .i64 v.n)
  t : w.cell? ⟨b, off + 2, none⟩ = some (.string v.t)
/-- A slice value that reads as a row. -/
structure RowIn (w : World) (b off : Nat) (r : List V) : Prop where
  blk : b < w.heap.size
  at_ : ∀ i (h : i < r.length), At w b (off + i * 3) r[i]
def RowAt (w : World) (v : Value) (r : List V) : Prop :=
  ∃ (a : Option Addr) (cap : Nat), v = .slice a r.length cap ∧ r.length ≤ 4398046511104 ∧ (r = [] ∨ ∃ b off, a = some ⟨b, off, none⟩ ∧ RowIn w b off r)

theorem At.later {w w' : World} {b off : Nat} {v : V} (h : At w b off v) (hb : b < w.heap.size) (hw : Below w.heap.size w w') : At w' b off v :=
  ⟨(hw.cell (p := ⟨b, off, none⟩) hb).trans h.k, (hw.cell (p := ⟨b, off + 1, none⟩) hb).trans h.n, (hw.cell (p := ⟨b, off + 2, none⟩) hb).trans h.t⟩
theorem RowIn.later {w w' : World} {b off : Nat} {r : List V} (h : RowIn w b off r) (hw : Below w.heap.size w w') : RowIn w' b off r :=
  ⟨Nat.lt_of_lt_of_le h.blk hw.size, fun i hi => (h.at_ i hi).later h.blk hw⟩
theorem RowAt.later {w w' : World} {v : Value} {r : List V} (h : RowAt w v r) (hw : Below w.heap.size w w') : RowAt w' v r := by
  obtain ⟨a, cap, h1, h2, h3⟩ := h
  exact ⟨a, cap, h1, h2, h3.imp id fun ⟨b, off, h4, h5⟩ => ⟨b, off, h4, h5.later hw⟩⟩

set_option maxHeartbeats 1000000 in
theorem refCompareRows_calls (va vb : Value) (a b : List V) (w : World) (ha : RowAt w va a) (hb : RowAt w vb b) :
    Calls Try.prog 82 #[va, vb] w fun e w' => e = .returned (.int .i64 (cmpR a b)) ∧ Gro w w' := by
  obtain ⟨pa, ca, rfl, la, ha⟩ := ha
  obtain ⟨pb, cb, rfl, lb, hb⟩ := hb
  obtain ⟨w0, rfl⟩ : ∃ w0, w0 = w := ⟨_, rfl⟩
  go_enter Try.func82, Try.ntmps82
  go_wp2
  go_loopw [5, 6] (fun i _ wr => ∃ k : Nat, k ≤ a.length ∧ k ≤ b.length ∧ i = .int .i64 k ∧ cmpR a b = cmpR (a.drop k) (b.drop k) ∧ Gro w0 wr) (fun i _ _ => a.length - (intOf i).toNat)
  case atStart => exact ⟨0, by omega, by omega, rfl, rfl, Gro.refl _⟩
  case round =>
    have mx := mixed
    obtain ⟨k, hka, hkb, rfl, hc, hg⟩ := hrel
    have HC := Lib.hid hc
    have HG := Lib.hid hg
    clear hc hg
    by_cases h1 : k < a.length
    · by_cases h2 : k < b.length
      · rcases ha with ha | ⟨ba, oa, rfl, ha⟩
        · exfalso; rw [ha] at h1; simp at h1
        rcases hb with hb | ⟨bb, ob, rfl, hb⟩
        · exfalso; rw [hb] at h2; simp at h2
        have aa := ha.later HG.out.below
        have bb' := hb.later HG.out.below
        obtain ⟨a1, a2, a3⟩ := aa.at_ k h1
        obtain ⟨b1, b2, b3⟩ := bb'.at_ k h2
        have a4 := aa.blk
        have b4 := bb'.blk
        clear ha hb aa bb'
        have hxa : a[k] = ⟨a[k].k, a[k].n, a[k].t⟩ := rfl
        have hxb : b[k] = ⟨b[k].k, b[k].n, b[k].t⟩ := rfl
        have HXA := Lib.hid hxa
        have HXB := Lib.hid hxb
        clear hxa hxb
        generalize a[k].k = ak at a1 HXA
        generalize a[k].n = an at a2 HXA
        generalize a[k].t = aT at a3 HXA
        generalize b[k].k = bk at b1 HXB
        generalize b[k].n = bn at b2 HXB
        generalize b[k].t = bT at b3 HXB
        have hstep : cmpR (a.drop k) (b.drop k) = if cmpV ⟨ak, an, aT⟩ ⟨bk, bn, bT⟩ = 0 then cmpR (a.drop (k + 1)) (b.drop (k + 1)) else cmpV ⟨ak, an, aT⟩ ⟨bk, bn, bT⟩ := by
          rw [List.drop_eq_getElem_cons h1, List.drop_eq_getElem_cons h2, HXA.out, HXB.out]
          rfl
        have h2' : ¬ b.length ≤ k := by omega
        have hcc := refCompare_calls ⟨ak, an, aT⟩ ⟨bk, bn, bT⟩
        generalize cmpV ⟨ak, an, aT⟩ ⟨bk, bn, bT⟩ = c at hstep hcc
        have HS := Lib.hid hstep
        have HCC := Lib.hid hcc
        clear hstep hcc
        have d1 : decide ((k : Int) < (a.length : Int)) = true := by simp; omega
        have d2 : decide ((k : Int) < (b.length : Int)) = true := by simp; omega
        by_cases e : c = 0
        · subst e
          go_wp2_with fail
          go_quiet_grown (first | (go_at_call 29; refine gro_calls (HCC.out _)))
          go_wp2
          go_roundw
          case rel => exact ⟨k + 1, by omega, by omega, by go_num, by rw [HC.out, HS.out]; simp, HG.out.grown _ _⟩
          case measure => simp [intOf]; omega
        · have e' : (c != 0) = true := by simpa using e
          have HE : Hid (c = cmpR a b) := by show _ = _; rw [HC.out, HS.out, if_neg e]
          clear e
          go_wp2_with fail
          go_quiet_grown (first | (go_at_call 29; refine gro_calls (HCC.out _)))
          go_wp2
          go_ret
          exact ⟨ret_i HE.out, HG.out.grown _ _⟩
      · have HE : Hid (1 = cmpR a b) := by
          show _ = _
          rw [HC.out, List.drop_eq_getElem_cons h1, List.drop_eq_nil_of_le (show b.length ≤ _ by omega)]
          rfl
        have d1 : decide ((k : Int) < (a.length : Int)) = true := by simp; omega
        have d2 : decide ((k : Int) < (b.length : Int)) = false := by simp; omega
        have d3 : decide ((a.length : Int) < (b.length : Int)) = false := by simp; omega
        have d4 : decide ((b.length : Int) < (a.length : Int)) = true := by simp; omega
        clear ha hb
        go_wp2
        go_ret
        exact ⟨ret_i HE.out, HG.out⟩
    · have hk : k = a.length := by omega
      subst hk
      clear ha hb
      by_cases h2 : a.length < b.length
      · have HE : Hid (-1 = cmpR a b) := by
          show _ = _
          rw [HC.out, List.drop_eq_nil_of_le (show a.length ≤ _ from Nat.le_refl _), List.drop_eq_getElem_cons h2]
          rfl
        go_wp2
        go_ret
        exact ⟨ret_i HE.out, HG.out⟩
      · have HE : Hid (0 = cmpR a b) := by
          show _ = _
          rw [HC.out, List.drop_eq_nil_of_le (show a.length ≤ _ from Nat.le_refl _), List.drop_eq_nil_of_le (show b.length ≤ _ by omega)]
          rfl
        have h3 : ¬ b.length < a.length := by omega
        go_wp2
        go_ret
        exact ⟨ret_i HE.out, HG.out⟩
end Go.Proofs.Ytmjokpakekfkfaa

/- Rows that the call owns, and the contracts of value.copyRow and the reference's Copy. -/
set_option linter.unusedSimpArgs false
set_option linter.unusedVariables false
namespace Go.Proofs.Ytmjokpakekfkfaa
open Go.RowKit

/-- The cells of a row. -/
def flat : List V → List Value
  | [] => []
  | v :: r => .int .i64 v.k :: .int .i64 v.n :: .string v.t :: flat r
theorem flat_length (r : List V) : (flat r).length = r.length * 3 := by
  induction r with
  | nil => rfl
  | cons v r ih => simp [flat, ih]; omega
theorem flat_one (r : List V) : ∀ v ∈ flat r, v.oneCell' = true := by
  induction r with
  | nil => simp [flat]
  | cons v r ih => simp [flat, Value.oneCell']; exact ih
theorem flat_at (r : List V) (i : Nat) (h : i < r.length) : (flat r)[i * 3]? = some (.int .i64 r[i].k) ∧ (flat r)[i * 3 + 1]? = some (.int .i64 r[i].n) ∧ (flat r)[i * 3 + 2]? = some (.string r[i].t) := by
  induction r generalizing i with
  | nil => simp at h
  | cons v r ih =>
    rcases i with _ | i
    · simp [flat]
    · have := ih i (by simpa using h)
      rw [show (i + 1) * 3 = i * 3 + 3 from by omega]
      simpa [flat] using this
theorem flat_cells {w : World} {b : Nat} (r : List V) (off : Nat) (h : ∀ i (h : i < r.length), At w b (off + i * 3) r[i]) (j : Nat) (v : Value) (hj : (flat r)[j]? = some v) : w.cell? ⟨b, off + j, none⟩ = some v := by
  induction r generalizing off j with
  | nil => simp [flat] at hj
  | cons x r ih =>
    obtain ⟨k0, n0, t0⟩ := h 0 (by simp)
    simp at k0 n0 t0
    rcases j with _ | _ | _ | j
    · simp [flat] at hj; rw [← hj]; simpa using k0
    · simp [flat] at hj; rw [← hj]; simpa using n0
    · simp [flat] at hj; rw [← hj]; simpa using t0
    · have := ih (off + 3) (fun i hi => by
        have := h (i + 1) (by simpa using hi)
        rw [show off + (i + 1) * 3 = off + 3 + i * 3 from by omega] at this
        simpa using this) j (by simpa [flat] using hj)
      rw [show off + (j + 1 + 1 + 1) = off + 3 + j from by omega]
      exact this
theorem RowAt.of_owned {w : World} {base : Nat} {u : Value} {r : List V} (h : w.ownsRow base 25 3 u r.length (flat r)) (hl : r.length ≤ 4398046511104) : RowAt w u r := by
  have h0 := h
  obtain ⟨hx, hv | ⟨g, cap, cur, hv, hg, hh, hcap, hm, hs, ht⟩⟩ := h
  · obtain ⟨rfl, hn⟩ := hv
    obtain rfl : r = [] := List.eq_nil_of_length_eq_zero hn
    exact ⟨none, 0, rfl, by simp, .inl rfl⟩
  · subst hv
    refine ⟨some ⟨g, 0, none⟩, cap, rfl, hl, ?_⟩
    by_cases hr : r = []
    · exact .inl hr
    · refine .inr ⟨g, 0, rfl, (Array.getElem?_eq_some_iff.1 hh).1, fun i hi => ?_⟩
      obtain ⟨f0, f1, f2⟩ := flat_at r i hi
      have c0 := h0.cellAt (i * 3) (by omega)
      have c1 := h0.cellAt (i * 3 + 1) (by omega)
      have c2 := h0.cellAt (i * 3 + 2) (by omega)
      simp only [Nat.zero_add]
      exact ⟨c0.trans f0, c1.trans f1, c2.trans f2⟩

theorem info24 : (Try.prog.info? 25).map (fun i => (i.zero, i.size, i.bytes)) = some (some (V.val ⟨0, 0, ⟨#[]⟩⟩), 3, 32) := by kernel_rfl
theorem info38 : (Try.prog.info? 88).map (fun i => (i.zero, i.size, i.bytes)) = some (some (.slice none 0 0), 1, 24) := by kernel_rfl

/-- 'copy' of a row into one that the call has just made. -/
theorem run_copy3 (w : World) (ty : TypeId) (a : Option Addr) (cap n g : Nat) (cur : Array Value) (r : List V) (hn : n = r.length) (hg : w.heap[g]? = some (.cells cur 25 (0, 0))) (hcur : cur.size = n * 3)
    (hsrc : r = [] ∨ ∃ b off, a = some ⟨b, off, none⟩ ∧ RowIn w b off r) :
    ∃ w', (Builtin.copy_ #[88, 88] ty #[.slice (some ⟨g, 0, none⟩) n n, .slice a n cap]).run Try.prog w = .ok (goInt n) w' ∧ w'.heap[g]? = some (.cells (flat r).toArray 25 (0, 0)) ∧ w.grownBy w' (some g) := by
  obtain ⟨i, hi, hz, hsz, hby⟩ := info_parts info24
  subst hn
  by_cases hr : r = []
  · subst hr
    simp only [List.length_nil, Nat.zero_mul] at hcur
    obtain rfl : cur = #[] := Array.eq_empty_of_size_eq_zero hcur
    refine ⟨w, ?_, hg, ⟨rfl, rfl, rfl, Nat.le_refl _, fun _ _ _ => rfl⟩⟩
    cases a <;> simp [Builtin.copy_, run_underlying Try.underlying88, Builtin.lenOf, Builtin.firstCells, sizeOf, typeInfo, hi, hsz, storeCells, loadCells, loadCellsFrom]
  · obtain ⟨b, off, rfl, hb⟩ := hsrc.resolve_left hr
    have hl := run_loadCells_list (P := Try.prog) w ⟨b, off, none⟩ (flat r) (fun j v hj => by
      have := flat_cells r off hb.at_ j v hj
      rcases j with _ | j <;> simpa [Addr.add] using this)
    have hst := run_storeCells_at Try.prog g 0 25 (flat r) 0 cur w hg (by simp [flat_length, hcur]) (flat_one r)
    refine ⟨w.setRow g (flat r).toArray, ?_, setRow_heap w g cur _ _ _ hg, ⟨rfl, rfl, rfl, by simp [World.setRow], fun k _ hk => setRow_other w g k _ (fun e => hk (by rw [e]))⟩⟩
    have hd : cur.toList.drop (flat r).length = [] := List.drop_eq_nil_of_le (by simp [flat_length, hcur])
    simp only [flat_length] at hl hst hd
    simp [Builtin.copy_, run_underlying Try.underlying88, Builtin.lenOf, Builtin.firstCells, sizeOf, typeInfo, hi, hsz, hl, hst, hd, goInt]

end Go.Proofs.Ytmjokpakekfkfaa

/- The contracts of value.nextText, value.Next and the reference's Next. -/
set_option linter.unusedSimpArgs false
set_option linter.unusedVariables false
namespace Go.Proofs.Ytmjokpakekfkfaa
open Go.RowKit

/-- The greatest place below m whose byte can grow. -/
def lastLow (l : List UInt8) : Nat → Option Nat
  | 0 => none
  | m + 1 => if l.getD m 0 = 255 then lastLow l m else some m
def bump (s : ByteArray) (i : Nat) : ByteArray := s.extract 0 i ++ ⟨#[s.data.toList.getD i 0 + 1]⟩
def more (s : ByteArray) : ByteArray := s ++ ⟨#[0]⟩
/-- The least text above a text. -/
def nextT (s : ByteArray) : Option ByteArray := if s.size < 64 then some (more s) else (lastLow s.data.toList s.size).map (bump s)
def nextTV (s : ByteArray) : Option V := (nextT s).map fun t => ⟨5, 0, t⟩
def zeroV : V := ⟨0, 0, ByteArray.empty⟩
/-- A value and whether there is one. -/
def both (o : Option V) : Value := .tuple #[(o.getD zeroV).val, .bool o.isSome]

theorem wrap_u8 (x : UInt8) (h : (x.toNat : Int) < 255) : IntKind.u8.wrap ((x.toNat : Int) + 1) = ((x + 1).toNat : Int) := by
  have : (x + 1).toNat = x.toNat + 1 := by rw [UInt8.toNat_add]; simp; omega
  rw [this]
  simp [IntKind.wrap, IntKind.bits, IntKind.signed]
  omega
/-- A slice of one byte as a string. -/
theorem conv_one (w : World) (b : Nat) (x : UInt8) (hc : w.cell? ⟨b, 0, none⟩ = some (.int .u8 ((x.toNat : Int)))) :
    (convert 22 9 (.slice (some ⟨b, 0, none⟩) 1 1)).run Try.prog w = .ok (.string ⟨#[x]⟩) w :=
  run_convert_bytes_back w 22 9 5 ⟨b, 0, none⟩ 1 [x] Try.underlying22 Try.underlying5 Try.underlying9 (fun j hj => by
    obtain rfl : j = 0 := by simpa using hj
    simpa [Addr.add] using hc)
theorem getD_at (s : ByteArray) (m : Nat) (h : m < s.size) : s.data.toList.getD m 0 = s[m] := by
  rw [List.getD_eq_getElem?_getD, List.getElem?_eq_getElem (by simpa using h)]
  rfl

end Go.Proofs.Ytmjokpakekfkfaa

/- The contracts of value.Next and the reference's Next. -/
set_option linter.unusedSimpArgs false
set_option linter.unusedVariables false
namespace Go.Proofs.Ytmjokpakekfkfaa
open Go.RowKit

/-- The least valid value above a value. -/
def nextV (v : V) : Option V :=
  if validB v = false then none
  else if v.k = 1 then some ⟨2, 0, ByteArray.empty⟩
  else if v.k = 2 then some ⟨3, 0, ByteArray.empty⟩
  else if v.k = 3 then (if v.n = 0 then some ⟨3, 1, ByteArray.empty⟩ else some ⟨4, -9223372036854775808, ByteArray.empty⟩)
  else if v.k = 4 then (if v.n < 9223372036854775807 then some ⟨4, v.n + 1, ByteArray.empty⟩ else some ⟨5, 0, ByteArray.empty⟩)
  else nextTV v.t
theorem nextV_invalid {v : V} (h : validB v = false) : nextV v = none := by unfold nextV; rw [if_pos h]
theorem nextV_text {t : ByteArray} (h : validB ⟨5, 0, t⟩ = true) : nextV ⟨5, 0, t⟩ = nextTV t := by unfold nextV; simp [h]
theorem nextV_int {n : Int} (h : n < 9223372036854775807) : nextV ⟨4, n, ByteArray.empty⟩ = some ⟨4, n + 1, ByteArray.empty⟩ := by unfold nextV; simp [h, validB, validP]
theorem nextV_last {n : Int} (h : ¬ n < 9223372036854775807) : nextV ⟨4, n, ByteArray.empty⟩ = some ⟨5, 0, ByteArray.empty⟩ := by unfold nextV; simp [h, validB, validP]
theorem both_none : both none = .tuple #[V.val ⟨0, 0, ByteArray.empty⟩, .bool false] := rfl
theorem both_some (v : V) : both (some v) = .tuple #[v.val, .bool true] := rfl

theorem box2 {W w : World} {x y z : Value} {T : TypeId} {o : Obj} {q : Nat} {os : Array Obj} (hW : W = Sort.grow (((w.alloc (.cells #[x, y, z] T)).alloc o).drewN q) os) (m : Nat) (os' : Array Obj) :
    (Sort.grow (W.drewN m) os').cell? ⟨w.heap.size, 0, none⟩ = some x ∧ (Sort.grow (W.drewN m) os').cell? ⟨w.heap.size, 1, none⟩ = some y ∧ (Sort.grow (W.drewN m) os').cell? ⟨w.heap.size, 2, none⟩ = some z := by
  subst hW
  refine ⟨?_, ?_, ?_⟩ <;> go_simp

theorem wrap_next (n : Int) (h0 : -9223372036854775808 ≤ n) (h : n < 9223372036854775807) : wrap64 (n + 1) = n + 1 := by
  unfold wrap64
  omega
end Go.Proofs.Ytmjokpakekfkfaa

/- Contracts of the maker of inputs, partsynccase.Case, of which a law is told only that its values are valid. -/
set_option linter.unusedSimpArgs false
set_option linter.unusedVariables false
namespace Go.Proofs.Ytmjokpakekfkfaa
open Go.RowKit

/-- A case: its numbers, and how far it has been read. -/
structure CaseOf (w : World) (b : Nat) (a : Option Addr) (len cap pos : Nat) : Prop where
  lt : b < w.heap.size
  c0 : w.cell? ⟨b, 0, none⟩ = some (.slice a len cap)
  c1 : w.cell? ⟨b, 1, none⟩ = some (.int .i64 pos)
  f1 : w.frozen? ⟨b, 1, none⟩ = false
  le : pos ≤ len
  few : len ≤ 120
  num : len = 0 ∨ ∃ g off, a = some ⟨g, off, none⟩ ∧ g < w.heap.size ∧ g ≠ b ∧ ∀ i, i < len → ∃ x : Int, w.cell? ⟨g, off + i, none⟩ = some (.int .u8 x) ∧ 0 ≤ x ∧ x ≤ 255
structure CaseId where
  a : Option Addr
  len : Nat
  cap : Nat
def CaseAt (w : World) (b : Nat) (c : CaseId) : Prop := ∃ pos, CaseOf w b c.a c.len c.cap pos
theorem CaseOf.grown {w w' : World} {b : Nat} {a : Option Addr} {len cap pos : Nat} (h : CaseOf w b a len cap pos) (hg : w.grownBy w' none) : CaseOf w' b a len cap pos :=
  ⟨Nat.lt_of_lt_of_le h.lt hg.size, hg.cell h.c0 (by simp), hg.cell h.c1 (by simp), by
    rw [World.frozen?_of_block (w := w) (hg.block b h.lt (by simp))]; exact h.f1, h.le, h.few, h.num.imp id fun ⟨g, off, h1, h2, h3, h4⟩ => ⟨g, off, h1, Nat.lt_of_lt_of_le h2 hg.size, h3, fun i hi => let ⟨x, k1, k2⟩ := h4 i hi; ⟨x, hg.cell k1 (by simp), k2⟩⟩⟩

theorem gro_by {w w' : World} (h : Gro w w') (r : Option Nat) : w.grownBy w' r := ⟨h.below.os, h.below.tape, h.below.output, h.below.size, fun k hk _ => h.below.block k hk⟩
theorem by_some {w w' : World} (h : w.grownBy w' none) (r : Option Nat) : w.grownBy w' r := ⟨h.os, h.tape, h.output, h.size, fun k hk _ => h.block k hk (by simp)⟩
theorem by_trans {w w1 w2 : World} {r : Option Nat} (h : w.grownBy w1 r) (h' : w1.grownBy w2 r) : w.grownBy w2 r :=
  ⟨h'.os.trans h.os, h'.tape.trans h.tape, h'.output.trans h.output, Nat.le_trans h.size h'.size, fun k hk hr => (h'.block k (Nat.lt_of_lt_of_le hk h.size) hr).trans (h.block k hk hr)⟩
theorem by_store {w : World} {b o : Nat} {v : Value} : w.grownBy (w.setCell ⟨b, o, none⟩ v) (some b) :=
  ⟨rfl, rfl, rfl, by simp [World.setCell], fun k hk hr => Below.heap_setCell _ _ _ _ (fun e => hr (by rw [e]))⟩
/-- Reading on. -/
theorem CaseOf.next {w : World} {b : Nat} {a : Option Addr} {len cap pos : Nat} (h : CaseOf w b a len cap pos) (hp : pos < len) : CaseOf (w.setCell ⟨b, 1, none⟩ (.int .i64 ((pos : Int) + 1))) b a len cap (pos + 1) :=
  ⟨by have := h.lt; simpa [World.setCell] using this, by rw [World.cell?_setCell_other _ _ _ _ (by simp)]; exact h.c0, World.cell?_setCell_same _ _ _ h.c1, by
    have := h.f1
    simpa using this, by omega, h.few, h.num.imp id fun ⟨g, off, h1, h2, h3, h4⟩ => ⟨g, off, h1, by simpa [World.setCell] using h2, h3, fun i hi => let ⟨x, k1, k2⟩ := h4 i hi; ⟨x, by rw [World.cell?_setCell_other _ _ _ _ (by simp; first | done | exact h3 | (intro e; exact absurd e h3))]; exact k1, k2⟩⟩⟩

def IntPost (b : Nat) (c : CaseId) (n : Int) (w : World) (e : Ending) (w' : World) : Prop := ∃ x : Int, e = .returned (.int .i64 x) ∧ 0 ≤ x ∧ x < n ∧ CaseAt w' b c ∧ w.grownBy w' (some b)

set_option maxHeartbeats 1000000 in
theorem int_calls (b : Nat) (c : CaseId) (n : Int) (h1 : 1 ≤ n) (h2 : n ≤ 4398046511104) (w : World) (hc : CaseAt w b c) :
    Calls Try.prog 28 #[.pointer (some ⟨b, 0, none⟩), .int .i64 n] w (IntPost b c n w) := by
  have mx := mixed
  obtain ⟨a, len, cap⟩ := c
  obtain ⟨pos, hc⟩ := hc
  simp only at hc
  have k0 := hc.c0
  have k1 := hc.c1
  have kf := hc.f1
  have kl := hc.lt
  have kp := hc.le
  have kw := hc.few
  by_cases hp : len ≤ pos
  · have d1 : decide ((len : Int) ≤ (pos : Int)) = true := by simp; omega
    have d2 : decide (len ≤ pos) = true := by simpa using hp
    have H := Lib.hid hc
    clear hc
    go_enter Try.func28, Try.ntmps28
    go_wp2_with fail
    go_quiet_grown (fail)
    go_wp2
    go_ret
    have hg : Gro w (Sort.grow (w.drewN nq) osq) := (Gro.refl w).grown _ _
    exact ⟨0, rfl, by omega, by omega, ⟨pos, H.out.grown (gro_by hg none)⟩, gro_by hg _⟩
  · have hlt : pos < len := by omega
    obtain ⟨g, off, rfl, hg1, hg2, hg3⟩ := hc.num.resolve_left (by omega)
    obtain ⟨x, kx, hx0, hx1⟩ := hg3 pos hlt
    have d1 : decide ((len : Int) ≤ (pos : Int)) = false := by simp; omega
    have d2 : decide (len ≤ pos) = false := by simpa using hp
    have d3 : decide (n < 1) = false := by simp; omega
    have hn : ¬ n < 1 := by omega
    have H := Lib.hid hc
    clear hc hg3
    go_enter Try.func28, Try.ntmps28
    go_wp2_with fail
    go_quiet_grown (fail)
    go_wp2_with fail
    obtain ⟨W1, hW1⟩ : ∃ W1, W1 = Sort.grow ((w.setCell ⟨b, 1, none⟩ (.int .i64 ((pos : Int) + 1))).drewN nq) osq := ⟨_, rfl⟩
    rw [← hW1]
    have hC : CaseOf W1 b (some ⟨g, off, none⟩) len cap (pos + 1) := by rw [hW1]; exact (H.out.next hlt).grown (gro_by ((Gro.refl _).grown _ _) none)
    have hby : w.grownBy W1 (some b) := by rw [hW1]; exact by_trans by_store (gro_by ((Gro.refl _).grown _ _) _)
    have m0 := hC.c0
    have m1 := hC.c1
    have mb := hC.lt
    have mg := Nat.lt_of_lt_of_le hg1 hby.size
    have mk := hby.cell kx (by simp; exact hg2)
    have HC := Lib.hid hC
    have HB := Lib.hid hby
    have e1 : IntKind.i64.wrap (pos : Int) = (pos : Int) := IntWalk.i64_in _ (by omega)
    have hm0 : 0 ≤ x.tmod n := Int.tmod_nonneg n hx0
    have hm1 : x.tmod n < n := Int.tmod_lt_of_pos x (by omega)
    have e3 : IntKind.i64.wrap (x.tmod n) = x.tmod n := IntWalk.i64_in _ (by omega)
    have e4 : (n == 0) = false := by simp; omega
    have e6 : ¬ n = 0 := by omega
    have e5 : IntKind.i64.wrap x = x := IntWalk.i64_in _ (by omega)
    have HM := Lib.hid (And.intro hm0 hm1)
    clear hm0 hm1
    clear hW1 hC hby k0 k1 kf kl kx H d1 d2 hp
    go_quiet_grown (fail)
    go_wp2
    go_ret
    have hg : Gro W1 (Sort.grow (W1.drewN nq) osq) := (Gro.refl W1).grown _ _
    have hcs : CaseAt (Sort.grow (W1.drewN nq) osq) b ⟨some ⟨g, off, none⟩, len, cap⟩ := ⟨_, HC.out.grown (gro_by hg none)⟩
    have hbb : w.grownBy (Sort.grow (W1.drewN nq) osq) (some b) := by_trans HB.out (gro_by hg _)
    exact ⟨x.tmod n, ret_i (by first | rfl | (simp [IntWalk.rem_in x n hx0])), HM.out.1, HM.out.2, hcs, hbb⟩

/-! ### what is left of a case's other readers: each returns something fit -/
def isNum (x : Int) : Prop := -9223372036854775808 ≤ x ∧ x ≤ 9223372036854775807
def GotInt (b : Nat) (c : CaseId) (ok : Int → Prop) (w : World) (e : Ending) (w' : World) : Prop := ∃ x : Int, e = .returned (.int .i64 x) ∧ ok x ∧ CaseAt w' b c ∧ w.grownBy w' (some b)
def GotText (b : Nat) (c : CaseId) (w : World) (e : Ending) (w' : World) : Prop := ∃ s : ByteArray, e = .returned (.string s) ∧ s.size ≤ 64 ∧ CaseAt w' b c ∧ w.grownBy w' (some b)
def GotV (b : Nat) (c : CaseId) (w : World) (e : Ending) (w' : World) : Prop := ∃ v : V, e = .returned v.val ∧ validB v = true ∧ isNum v.n ∧ CaseAt w' b c ∧ w.grownBy w' (some b)

theorem number_calls (b : Nat) (c : CaseId) (w : World) (hc : CaseAt w b c) : Calls Try.prog 59 #[.pointer (some ⟨b, 0, none⟩)] w (GotInt b c isNum w) := by
  have hi := int_calls b c 12 (by omega) (by omega) w hc
  have HI := Lib.hid hi
  clear hi hc
  go_enter Try.func59, Try.ntmps59
  go_wp2_with fail
  refine HI.out.mono ?_
  rintro e w' ⟨x, rfl, hx0, hx1, hcs, hby⟩
  have HC := Lib.hid hcs
  have HB := Lib.hid hby
  clear hcs hby HI
  go_wp2
  all_goals
    go_ret
    exact ⟨_, rfl, by unfold isNum; constructor <;> omega, HC.out, HB.out⟩

theorem text_done {b : Nat} {c : CaseId} {w w' : World} {s : ByteArray} (h : s.size ≤ 64) (HC : CaseAt w' b c) (HB : w.grownBy w' (some b)) : GotText b c w (.returned (.string s)) w' := ⟨s, rfl, h, HC, HB⟩

set_option maxRecDepth 100000 in
theorem caseText_calls (b : Nat) (c : CaseId) (w : World) (hc : CaseAt w b c) : Calls Try.prog 60 #[.pointer (some ⟨b, 0, none⟩)] w (GotText b c w) := by
  have hi := int_calls b c 10 (by omega) (by omega) w hc
  have HI := Lib.hid hi
  clear hi hc
  go_enter Try.func60, Try.ntmps60
  go_wp2_with fail
  refine HI.out.mono ?_
  rintro e w' ⟨x, rfl, hx0, hx1, hcs, hby⟩
  have HC := Lib.hid hcs
  have HB := Lib.hid hby
  clear hcs hby HI
  by_cases h8 : x = 8
  · subst h8
    go_wp2
    go_loop [3, 4] (fun v i => ∃ (k : Nat) (s : ByteArray), k ≤ 64 ∧ i = .int .i64 k ∧ v = .string s ∧ s.size = k) (fun _ i => 64 - (intOf i).toNat)
    case atStart => exact ⟨0, ⟨#[]⟩, by omega, rfl, rfl, rfl⟩
    case round =>
      obtain ⟨k, s, hk, rfl, rfl, hs⟩ := hrel
      by_cases hlt : k < 64
      · have hsz : s.size ≤ 64 := by omega
        have HS := Lib.hid hs
        clear hs
        have hlt' : decide ((k : Int) < 64) = true := by simp; omega
        go_wp2
        exact ⟨⟨k + 1, _, by omega, by go_num, rfl, by rw [ByteArray.size_append, HS.out]; rfl⟩, by simp [intOf]; omega⟩
      · have hlt' : decide ((k : Int) < 64) = false := by simp; omega
        have H64 : Hid (s.size ≤ 64) := by show _ ≤ _; omega
        clear hs
        go_wp2
        go_ret
        exact text_done H64.out HC.out HB.out
  by_cases h9 : x = 9
  · subst h9
    clear h8
    go_wp2
    go_loop [3, 5] (fun v i => ∃ (k : Nat) (s : ByteArray), k ≤ 64 ∧ i = .int .i64 k ∧ v = .string s ∧ s.size = k) (fun _ i => 64 - (intOf i).toNat)
    case atStart => exact ⟨0, ⟨#[]⟩, by omega, rfl, rfl, rfl⟩
    case round =>
      obtain ⟨k, s, hk, rfl, rfl, hs⟩ := hrel
      by_cases hlt : k < 64
      · have hsz : s.size ≤ 64 := by omega
        have HS := Lib.hid hs
        clear hs
        have hlt' : decide ((k : Int) < 64) = true := by simp; omega
        go_wp2
        exact ⟨⟨k + 1, _, by omega, by go_num, rfl, by rw [ByteArray.size_append, HS.out]; rfl⟩, by simp [intOf]; omega⟩
      · have hlt' : decide ((k : Int) < 64) = false := by simp; omega
        have H64 : Hid (s.size ≤ 64) := by show _ ≤ _; omega
        clear hs
        go_wp2
        go_ret
        exact text_done H64.out HC.out HB.out
  obtain rfl | rfl | rfl | rfl | rfl | rfl | rfl | rfl : x = 0 ∨ x = 1 ∨ x = 2 ∨ x = 3 ∨ x = 4 ∨ x = 5 ∨ x = 6 ∨ x = 7 := by omega
  all_goals
    clear h8 h9
    go_wp2
    go_ret
    exact text_done (by decide) HC.out HB.out


theorem CaseAt.grown {w w' : World} {b : Nat} {c : CaseId} (h : CaseAt w b c) (hg : w.grownBy w' none) : CaseAt w' b c := let ⟨pos, h'⟩ := h; ⟨pos, h'.grown hg⟩
theorem CaseAt.lt {w : World} {b : Nat} {c : CaseId} (h : CaseAt w b c) : b < w.heap.size := let ⟨pos, h'⟩ := h; h'.lt
/-- A store elsewhere. -/
theorem CaseAt.stored {w0 w : World} {b : Nat} {c : CaseId} (h0 : CaseAt w0 b c) (h : CaseAt w b c) {n o : Nat} (hn : w0.heap.size ≤ n) (v : Value) : CaseAt (w.setCell ⟨n, o, none⟩ v) b c := by
  obtain ⟨pos, h⟩ := h
  obtain ⟨pos0, h0⟩ := h0
  have hb := h0.lt
  refine ⟨pos, by have := h.lt; simpa [World.setCell] using this, by rw [World.cell?_setCell_other _ _ _ _ (by simp <;> omega)]; exact h.c0, by rw [World.cell?_setCell_other _ _ _ _ (by simp <;> omega)]; exact h.c1, by have := h.f1; simpa using this, h.le, h.few, ?_⟩
  rcases h0.num with h0n | ⟨g0, off0, e0, h00, _⟩
  · exact .inl h0n
  · rcases h.num with hn' | ⟨g, off, e, h1, h2, h3⟩
    · exact .inl hn'
    · rw [e0] at e
      simp only [Option.some.injEq, Addr.mk.injEq] at e
      obtain ⟨rfl, rfl, -⟩ := e
      exact .inr ⟨g0, off0, e0, by simpa [World.setCell] using h1, h2, fun i hi => let ⟨x, k1, k2⟩ := h3 i hi; ⟨x, by rw [World.cell?_setCell_other _ _ _ _ (by simp <;> omega)]; exact k1, k2⟩⟩
theorem by_store_new {w w' : World} {r : Option Nat} (h : w.grownBy w' r) {n o : Nat} (hn : w.heap.size ≤ n) (v : Value) : w.grownBy (w'.setCell ⟨n, o, none⟩ v) r :=
  ⟨h.os, h.tape, h.output, by have := h.size; simpa [World.setCell] using this, fun k hk hr => (Below.heap_setCell _ _ _ _ (by show k ≠ n; omega)).trans (h.block k hk hr)⟩
theorem by_alloc {w w' : World} {o : Obj} {r : Option Nat} (h : (w.alloc o).grownBy w' r) : w.grownBy w' r := by_trans (World.grownBy_alloc w o r) h
/-- A block of the call's own, behind a reading of the case. -/
theorem box_kept {w w' : World} {b : Nat} {x y z : Value} {T : TypeId} (h : (w.alloc (.cells #[x, y, z] T)).grownBy w' (some b)) (hb : b < w.heap.size) :
    w.heap.size < w'.heap.size ∧ w'.cell? ⟨w.heap.size, 0, none⟩ = some x ∧ w'.cell? ⟨w.heap.size, 1, none⟩ = some y ∧ w'.cell? ⟨w.heap.size, 2, none⟩ = some z ∧
      w'.frozen? ⟨w.heap.size, 0, none⟩ = false ∧ w'.frozen? ⟨w.heap.size, 1, none⟩ = false ∧ w'.frozen? ⟨w.heap.size, 2, none⟩ = false := by
  have hs := h.size
  have hne : some w.heap.size ≠ some b := by simp; omega
  have hf : ∀ o, w'.frozen? ⟨w.heap.size, o, none⟩ = false := fun o => by
    rw [World.frozen?_of_block (w := w.alloc (.cells #[x, y, z] T)) (h.block w.heap.size (by simp) hne)]
    go_simp
  exact ⟨by simp at hs; omega, h.cell (by go_simp) hne, h.cell (by go_simp) hne, h.cell (by go_simp) hne, hf 0, hf 1, hf 2⟩

theorem caseValue_calls (b : Nat) (c : CaseId) (k : Int) (h3 : 3 ≤ k) (h5 : k ≤ 5) (w : World) (hc : CaseAt w b c) : Calls Try.prog 39 #[.pointer (some ⟨b, 0, none⟩), .int .i64 k] w (GotV b c w) := by
  have hc' : CaseAt (w.alloc (.cells #[.int .i64 0, .int .i64 0, .string ⟨#[]⟩] 25)) b c := hc.grown (World.grownBy_alloc w _ none)
  have hlt := hc.lt
  have HC0 := Lib.hid hc
  obtain rfl | rfl | rfl : k = 3 ∨ k = 4 ∨ k = 5 := by omega
  · have hi := int_calls b c 2 (by omega) (by omega) _ hc'
    have HI := Lib.hid hi
    clear hi hc hc'
    go_enter Try.func39, Try.ntmps39
    go_wp2_with fail
    refine HI.out.mono ?_
    rintro e w' ⟨x, rfl, hx0, hx1, hcs, hby⟩
    obtain ⟨q1, r0, r1, r2, f0, f1, f2⟩ := box_kept hby hlt
    have HC := Lib.hid hcs
    have HB := Lib.hid (by_alloc hby)
    clear hcs hby HI
    go_wp2
    exact bodyPost_ret (v := V.val ⟨3, x, ⟨#[]⟩⟩) (by simp [results, Try.results39, go_sem, V.val, r0, r1, r2, q1]; try rfl) rfl
      ⟨⟨3, x, ⟨#[]⟩⟩, rfl, by simp [validB, validP, data_empty]; omega, by unfold isNum; simp only; omega, HC0.out.stored (HC0.out.stored (HC0.out.stored HC.out (Nat.le_refl _) _) (Nat.le_refl _) _) (Nat.le_refl _) _, by_store_new (by_store_new (by_store_new HB.out (Nat.le_refl _) _) (Nat.le_refl _) _) (Nat.le_refl _) _⟩
  · have hi := number_calls b c _ hc'
    have HI := Lib.hid hi
    clear hi hc hc'
    go_enter Try.func39, Try.ntmps39
    go_wp2_with fail
    refine HI.out.mono ?_
    rintro e w' ⟨x, rfl, hx, hcs, hby⟩
    obtain ⟨q1, r0, r1, r2, f0, f1, f2⟩ := box_kept hby hlt
    have HC := Lib.hid hcs
    have HB := Lib.hid (by_alloc hby)
    have HX := Lib.hid hx
    clear hcs hby HI hx
    go_wp2
    exact bodyPost_ret (v := V.val ⟨4, x, ⟨#[]⟩⟩) (by simp [results, Try.results39, go_sem, V.val, r0, r1, r2, q1]; try rfl) rfl
      ⟨⟨4, x, ⟨#[]⟩⟩, rfl, by simp [validB, validP, data_empty], HX.out, HC0.out.stored (HC0.out.stored (HC0.out.stored HC.out (Nat.le_refl _) _) (Nat.le_refl _) _) (Nat.le_refl _) _, by_store_new (by_store_new (by_store_new HB.out (Nat.le_refl _) _) (Nat.le_refl _) _) (Nat.le_refl _) _⟩
  · have hi := caseText_calls b c _ hc'
    have HI := Lib.hid hi
    clear hi hc hc'
    go_enter Try.func39, Try.ntmps39
    go_wp2_with fail
    refine HI.out.mono ?_
    rintro e w' ⟨x, rfl, hx, hcs, hby⟩
    obtain ⟨q1, r0, r1, r2, f0, f1, f2⟩ := box_kept hby hlt
    have HC := Lib.hid hcs
    have HB := Lib.hid (by_alloc hby)
    have HX := Lib.hid hx
    clear hcs hby HI hx
    go_wp2
    exact bodyPost_ret (v := V.val ⟨5, 0, x⟩) (by simp [results, Try.results39, go_sem, V.val, r0, r1, r2, q1]; try rfl) rfl
      ⟨⟨5, 0, x⟩, rfl, by simp [validB, validP, HX.out], by unfold isNum; simp, HC0.out.stored (HC0.out.stored (HC0.out.stored HC.out (Nat.le_refl _) _) (Nat.le_refl _) _) (Nat.le_refl _) _, by_store_new (by_store_new (by_store_new HB.out (Nat.le_refl _) _) (Nat.le_refl _) _) (Nat.le_refl _) _⟩

theorem any_calls (b : Nat) (c : CaseId) (w : World) (hc : CaseAt w b c) : Calls Try.prog 13 #[.pointer (some ⟨b, 0, none⟩)] w (GotV b c w) := by
  have hc' : CaseAt (w.alloc (.cells #[.int .i64 0, .int .i64 0, .string ⟨#[]⟩] 25)) b c := hc.grown (World.grownBy_alloc w _ none)
  have hlt := hc.lt
  have HC0 := Lib.hid hc
  have hi := int_calls b c 5 (by omega) (by omega) _ hc'
  have HI := Lib.hid hi
  clear hi hc hc'
  go_enter Try.func13, Try.ntmps13
  go_wp2_with fail
  refine HI.out.mono ?_
  rintro e w1 ⟨x, rfl, hx0, hx1, hcs, hby⟩
  obtain ⟨q1, r0, r1, r2, f0, f1, f2⟩ := box_kept hby hlt
  by_cases h2 : x < 2
  · have HC := Lib.hid hcs
    have HB := Lib.hid (by_alloc hby)
    have h3 : 1 + x < 3 := by omega
    clear hcs hby HI
    go_wp2
    exact bodyPost_ret (v := V.val ⟨1 + x, 0, ⟨#[]⟩⟩) (by simp [results, Try.results13, go_sem, V.val, r0, r1, r2, q1]; try rfl) rfl
      ⟨⟨1 + x, 0, ⟨#[]⟩⟩, rfl, by simp [validB, validP, data_empty]; omega, by unfold isNum; simp, HC0.out.stored (HC0.out.stored (HC0.out.stored HC.out (Nat.le_refl _) _) (Nat.le_refl _) _) (Nat.le_refl _) _, by_store_new (by_store_new (by_store_new HB.out (Nat.le_refl _) _) (Nat.le_refl _) _) (Nat.le_refl _) _⟩
  · have h3 : ¬ 1 + x < 3 := by omega
    have hv := caseValue_calls b c (1 + x) (by omega) (by omega) w1 hcs
    have HV := Lib.hid hv
    have HBY := Lib.hid hby
    clear hv hby HI q1 r0 r1 r2 f0 f1 f2 hcs
    go_wp2_with fail
    refine HV.out.mono ?_
    rintro e w2 ⟨⟨vk, vn, vt⟩, rfl, hval, hnum, hcs2, hby2⟩
    obtain ⟨q1, r0, r1, r2, f0, f1, f2⟩ := box_kept (by_trans HBY.out hby2) hlt
    have HC := Lib.hid hcs2
    have HB := Lib.hid (by_alloc (by_trans HBY.out hby2))
    have HVA := Lib.hid hval
    have HNU := Lib.hid hnum
    clear hcs2 hby2 hval hnum
    go_wp2
    exact bodyPost_ret (v := V.val ⟨vk, vn, vt⟩) (by simp [results, Try.results13, go_sem, V.val, r0, r1, r2, q1]; try rfl) rfl
      ⟨⟨vk, vn, vt⟩, rfl, HVA.out, HNU.out, HC0.out.stored (HC0.out.stored (HC0.out.stored HC.out (Nat.le_refl _) _) (Nat.le_refl _) _) (Nat.le_refl _) _, by_store_new (by_store_new (by_store_new HB.out (Nat.le_refl _) _) (Nat.le_refl _) _) (Nat.le_refl _) _⟩
end Go.Proofs.Ytmjokpakekfkfaa

/- The contract of partsynccase.New. -/
set_option linter.unusedSimpArgs false
set_option linter.unusedVariables false
namespace Go.Proofs.Ytmjokpakekfkfaa
open Go.RowKit

/-- What the walk is told of a slice of numbers that came in. -/
def IsRow (k : IntKind) (w : World) (a : Option Addr) (len cap : Nat) (zs : List Int) : Prop :=
  (a = none ∧ len = 0 ∧ cap = 0 ∧ zs = []) ∨
  ∃ x, a = some x ∧ len ≤ cap ∧ cap ≤ maxLen ∧ zs.length = cap ∧ (∀ i, i < zs.length → w.cell? (x.add i) = some (.int k (zs.getD i 0))) ∧ ∀ n ∈ zs, (Lit.int k n).wf = true
theorem IsRow.later {k : IntKind} {w w' : World} {a : Option Addr} {len cap : Nat} {zs : List Int} (h : IsRow k w a len cap zs) (hw : Below w.heap.size w w') : IsRow k w' a len cap zs := by
  refine h.imp id fun ⟨x, h1, h2, h3, h4, h5, h6⟩ => ⟨x, h1, h2, h3, h4, fun i hi => ?_, h6⟩
  have hc := h5 i hi
  have hb : (x.add i).block < w.heap.size := by
    simp only [World.cell?] at hc
    by_cases h : (x.add i).block < w.heap.size
    · exact h
    · rw [Array.getElem?_eq_none (by omega)] at hc; simp at hc
  exact (hw.cell hb).trans hc

def NewPost (w : World) (e : Ending) (w' : World) : Prop := ∃ (b : Nat) (c : CaseId), e = .returned (.pointer (some ⟨b, 0, none⟩)) ∧ w.heap.size ≤ b ∧ CaseAt w' b c ∧ Below w.heap.size w w'

theorem info5 : (Try.prog.info? 5).map (fun i => (i.zero, i.size, i.bytes)) = some (some (.int .u8 0), 1, 1) := by kernel_rfl

/-- A case of no numbers. -/
theorem case_none (w : World) (T : TypeId) (a : Option Addr) (cap : Nat) : CaseAt (w.alloc (.cells #[.slice a 0 cap, .int .i64 0] T)) w.heap.size ⟨a, 0, cap⟩ :=
  ⟨0, by simp, by go_simp, by go_simp, by go_simp, by simp, by simp, .inl rfl⟩
/-- A case of numbers in a row that the call has just made. -/
theorem case_some {w : World} {base g m capg : Nat} {ns : List Int} (T : TypeId) (h : w.ownsRow base 5 1 (.slice (some ⟨g, 0, none⟩) m capg) m (ns.map (Value.int .u8))) (hg : g < w.heap.size) (hm : m ≤ 120) (hns : ∀ n ∈ ns, 0 ≤ n ∧ n ≤ 255) :
    CaseAt (w.alloc (.cells #[.slice (some ⟨g, 0, none⟩) m capg, .int .i64 0] T)) w.heap.size ⟨some ⟨g, 0, none⟩, m, capg⟩ := by
  have hl : ns.length = m := by have := h.1; simpa using this
  refine ⟨0, by simp, by go_simp, by go_simp, by go_simp, by simp, hm, .inr ⟨g, 0, rfl, by simp; omega, by omega, fun i hi => ?_⟩⟩
  have hi' : i < ns.length := by simp only at hi; omega
  refine ⟨ns[i], ?_, hns _ (List.getElem_mem hi')⟩
  have hc := h.cellAt i (by simp only at hi; omega)
  rw [World.cell?_alloc_past _ _ _ (by omega), Nat.zero_add, hc]
  simp [hi']

set_option maxRecDepth 100000 in
theorem new_calls (a : Option Addr) (len cap : Nat) (zs : List Int) (w : World) (hr : IsRow .u8 w a len cap zs) : Calls Try.prog 6 #[.slice a len cap, .int .i64 90] w (NewPost w) := by
  rcases hr with ⟨rfl, rfl, rfl, rfl⟩ | ⟨x, rfl, hl, hm, hz, hcell, hwz⟩
  · go_enter Try.func6, Try.ntmps6
    go_wp2
    go_ret
    exact ⟨_, _, rfl, Nat.le_refl _, case_none w _ none 0, (Below.refl _ _).alloc (Nat.le_refl _) _⟩
  by_cases h0 : len = 0
  · subst h0
    go_enter Try.func6, Try.ntmps6
    go_wp2
    go_ret
    exact ⟨_, _, rfl, Nat.le_refl _, case_none w _ none 0, (Below.refl _ _).alloc (Nat.le_refl _) _⟩
  obtain ⟨b0, off, spot⟩ := x
  have hc0 := hcell 0 (by omega)
  have hspot : spot = none := by simpa [Addr.add] using World.cell?_spot hc0
  subst hspot
  obtain ⟨i, hi, hz0, hsz, hby⟩ := info_parts info5
  have hnum : ∀ n ∈ zs, 0 ≤ n ∧ n ≤ 255 := fun n hn => by
    have := hwz n hn
    simpa [Lit.wf, IntKind.min, IntKind.max, IntKind.bits, IntKind.signed] using this
  have hnews : ∀ m, m ≤ len → ∀ j u, ((zs.take m).map (Value.int .u8))[j]? = some u → w.cell? ((⟨b0, off, none⟩ : Addr).add j) = some u := fun m hml j u hj => by
    have hjl : j < m ∧ j < zs.length := by
      have := (List.getElem?_eq_some_iff.1 hj).1
      simp at this
      omega
    rw [hcell j hjl.2, ← hj]
    simp [hjl.1, hjl.2]
  have h1 : ∀ m, ∀ u ∈ (zs.take m).map (Value.int .u8), u.oneCell' = true := fun m u hu => by
    obtain ⟨n, _, rfl⟩ := List.mem_map.1 hu
    rfl
  have HNE := Lib.hid hnews
  have H1 := Lib.hid h1
  have HNU := Lib.hid hnum
  have HI := Lib.hid hi
  have HZ := Lib.hid hz0
  have HS := Lib.hid hsz
  have HB := Lib.hid hby
  have HL := Lib.hid hz
  clear hnews h1 hnum hi hz0 hsz hby hcell hwz hc0 hz
  by_cases h90 : len ≤ 90
  · obtain ⟨N, hN⟩ : ∃ N, N = (zs.take len).map (Value.int .u8) := ⟨_, rfl⟩
    have hNl : N.length = len * 1 := by rw [hN]; simp; have := HL.out; omega
    have HN := Lib.hid hN
    have HNL := Lib.hid hNl
    clear hN hNl
    go_enter Try.func6, Try.ntmps6
    go_wp2_with (at_builtin; refine wpList_append_own _ rfl _ _ 22 rfl w.heap.size 5 i (.int .u8 0) 1 1 Try.underlying22 HI.out HZ.out HS.out HB.out rfl (by decide) (.slice none 0 0) 0 [] rfl (World.ownsRow_nil _ _ _ _) ⟨b0, off, none⟩ len cap N rfl HNL.out ?c1 ?c2 ?c3 ?c4 ?c5 ?_)
    case c1 => rw [HN.out]; exact HNE.out len (Nat.le_refl _)
    case c2 => rw [HN.out]; exact H1.out len
    case c3 => unfold maxLen; omega
    case c4 => omega
    case c5 => simp
    intro v' w1 hown hgrow hnil
    have hown' := hown
    obtain ⟨hx, hv | ⟨g, capg, cur, rfl, hg, hh, hcap, hm', hs, ht⟩⟩ := hown
    · exfalso; omega
    rw [HN.out] at hown'
    have HO := Lib.hid hown'
    have HG := Lib.hid hgrow
    have HLT := Lib.hid (Array.getElem?_eq_some_iff.1 hh).1
    clear hown' hgrow hnil hx hh hcap hm' hs ht hg
    go_wp2
    go_ret
    exact ⟨_, _, rfl, HG.out.size, case_some _ HO.out HLT.out (by omega) (fun n hn => HNU.out n (List.mem_of_mem_take hn)), ((Below.refl _ _).grown HG.out (Nat.le_refl _) (fun k hk => by cases hk)).alloc HG.out.size _⟩
  · have h90' : 90 < len := by omega
    obtain ⟨N, hN⟩ : ∃ N, N = (zs.take 90).map (Value.int .u8) := ⟨_, rfl⟩
    have hNl : N.length = 90 * 1 := by rw [hN]; simp; have := HL.out; omega
    have HN := Lib.hid hN
    have HNL := Lib.hid hNl
    clear hN hNl
    go_enter Try.func6, Try.ntmps6
    go_wp2_with (at_builtin; refine wpList_append_own _ rfl _ _ 22 rfl w.heap.size 5 i (.int .u8 0) 1 1 Try.underlying22 HI.out HZ.out HS.out HB.out rfl (by decide) (.slice none 0 0) 0 [] rfl (World.ownsRow_nil _ _ _ _) ⟨b0, off, none⟩ 90 cap N rfl HNL.out ?c1 ?c2 ?c3 ?c4 ?c5 ?_)
    case c1 => rw [HN.out]; exact HNE.out 90 (by omega)
    case c2 => rw [HN.out]; exact H1.out 90
    case c3 => unfold maxLen; omega
    case c4 => omega
    case c5 => simp
    intro v' w1 hown hgrow hnil
    have hown' := hown
    obtain ⟨hx, hv | ⟨g, capg, cur, rfl, hg, hh, hcap, hm', hs, ht⟩⟩ := hown
    · exfalso; omega
    rw [HN.out] at hown'
    have HO := Lib.hid hown'
    have HG := Lib.hid hgrow
    have HLT := Lib.hid (Array.getElem?_eq_some_iff.1 hh).1
    clear hown' hgrow hnil hx hh hcap hm' hs ht hg
    go_wp2
    go_ret
    exact ⟨_, _, rfl, HG.out.size, case_some _ HO.out HLT.out (by omega) (fun n hn => HNU.out n (List.mem_of_mem_take hn)), ((Below.refl _ _).grown HG.out (Nat.le_refl _) (fun k hk => by cases hk)).alloc HG.out.size _⟩
end Go.Proofs.Ytmjokpakekfkfaa
