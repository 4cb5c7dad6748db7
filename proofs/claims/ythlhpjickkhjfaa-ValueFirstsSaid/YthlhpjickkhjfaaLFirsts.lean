/- The law ValueFirsts returns true for every kind and every number, without conditions. -/
import Derived.Test.YthlhpjickkhjfaaB
import Derived.Test.YthlhpjickkhjfaaA6
import Derived.WalkKit
import Derived.ProofKit
import Derived.OpenShut
import Derived.ChangeOld
set_option linter.unusedSimpArgs false
set_option linter.unusedVariables false
namespace Go.Proofs.Ythlhpjickkhjfaa
open Go.ChangeShapes Go.WideShapes Go.ChangeAt Go.RowKit

/-- A variable's block that holds a value. -/
structure Box (w : World) (b : Nat) (v : V) : Prop where
  lt : b < w.heap.size
  at_ : At w b 0 v
theorem Box.later {w w' : World} {b : Nat} {v : V} (h : Box w b v) (hw : Below w.heap.size w w') : Box w' b v := ⟨Nat.lt_of_lt_of_le h.lt hw.size, h.at_.later h.lt hw⟩
theorem Box.new (w : World) (v : V) (T : TypeId) : Box (w.alloc (.cells #[.int .i64 v.k, .int .i64 v.n, .string v.t] T)) w.heap.size v :=
  ⟨by simp, ⟨by go_simp, by go_simp, by go_simp⟩⟩
theorem Box.alloc {w : World} {b : Nat} {v : V} (h : Box w b v) (o : Obj) : Box (w.alloc o) b v := h.later ((Below.refl _ _).alloc (Nat.le_refl _) o)

theorem Box.cells {w : World} {b : Nat} {k n : Int} {t : ByteArray} (h : Box w b ⟨k, n, t⟩) :
    b < w.heap.size ∧ w.cell? ⟨b, 0, none⟩ = some (.int .i64 k) ∧ w.cell? ⟨b, 1, none⟩ = some (.int .i64 n) ∧ w.cell? ⟨b, 2, none⟩ = some (.string t) :=
  ⟨h.lt, h.at_.k, h.at_.n, h.at_.t⟩
theorem Box.new' (w : World) (o : Obj) (v : V) (T : TypeId) : Box ((w.alloc o).alloc (.cells #[.int .i64 v.k, .int .i64 v.n, .string v.t] T)) (w.heap.size + 1) v := by
  have h := Box.new (w.alloc o) v T
  rw [show (w.alloc o).heap.size = w.heap.size + 1 from by simp] at h
  exact h

def ffs (k : Nat) : ByteArray := ⟨(List.replicate k 255).toArray⟩
theorem ffs_succ (k : Nat) : ffs k ++ ⟨#[255]⟩ = ffs (k + 1) := by
  apply toList_inj
  rw [ByteArray.toList_eq, ByteArray.toList_eq]
  simp [ffs, List.replicate_succ', ByteArray.data_append]
theorem next_ffs : both (nextV ⟨5, 0, ffs 64⟩) = .tuple #[V.val ⟨0, 0, ByteArray.empty⟩, .bool false] := by
  rw [nextV_text (by simp [validB, validP, ffs, ByteArray.size])]
  have : nextT (ffs 64) = none := by decide +kernel
  simp [both, nextTV, this, zeroV]
theorem next_hid : both (nextV ⟨2, 0, ⟨#[]⟩⟩) = .tuple #[V.val ⟨3, 0, ⟨#[]⟩⟩, .bool true] := rfl
theorem next_tru : both (nextV ⟨3, 1, ⟨#[]⟩⟩) = .tuple #[V.val ⟨4, -9223372036854775808, ⟨#[]⟩⟩, .bool true] := rfl
theorem next_max : both (nextV ⟨4, 9223372036854775807, ⟨#[]⟩⟩) = .tuple #[V.val ⟨5, 0, ⟨#[]⟩⟩, .bool true] := by
  rw [show (⟨4, 9223372036854775807, ⟨#[]⟩⟩ : V) = ⟨4, 9223372036854775807, ByteArray.empty⟩ from rfl, nextV_last (by decide)]; rfl

theorem cmp_min (n : Int) (h : -9223372036854775808 ≤ n) : cmpV ⟨4, -9223372036854775808, ⟨#[]⟩⟩ ⟨4, n, ⟨#[]⟩⟩ ≤ 0 := by
  have h1 : cmpI (-9223372036854775808) n ≤ 0 := by
    unfold cmpI
    split
    · omega
    · rw [if_neg (by omega)]; omega
  have h2 : cmpI (4 : Int) 4 = 0 := goodI.self 4
  unfold cmpV
  simp only
  rw [if_pos h2]
  split
  · rw [goodS.self]; omega
  · exact h1
theorem cmp_less (n : Int) : cmpV ⟨4, n, ⟨#[]⟩⟩ ⟨5, 0, ⟨#[]⟩⟩ = -1 := by
  unfold cmpV
  simp only
  rw [if_neg (show ¬ cmpI (4 : Int) 5 = 0 by decide)]
  decide
theorem compare_min (n : Int) (h : -9223372036854775808 ≤ n) : ∃ c : Int, c ≤ 0 ∧ ∀ w, Calls Try.prog 18 #[V.val ⟨4, -9223372036854775808, ⟨#[]⟩⟩, V.val ⟨4, n, ⟨#[]⟩⟩] w fun e w' => e = .returned (.int .i64 c) ∧ Gro w w' :=
  ⟨_, cmp_min n h, fun w => compare_calls _ _ w⟩
theorem compare_less (n : Int) (w : World) : Calls Try.prog 18 #[V.val ⟨4, n, ⟨#[]⟩⟩, V.val ⟨5, 0, ⟨#[]⟩⟩] w fun e w' => e = .returned (.int .i64 (-1)) ∧ Gro w w' := by
  have h := compare_calls ⟨4, n, ⟨#[]⟩⟩ ⟨5, 0, ⟨#[]⟩⟩ w
  rw [cmp_less] at h
  exact h

namespace Firsts
theorem own : ownKnob Try.prog.godebug = none := by kernel_rfl
theorem laidOut : laidOutB Try.prog = true := by kernel_rfl

set_option maxHeartbeats 2000000 in
set_option maxRecDepth 100000 in
theorem walk (a0 : Int) (a1 : Int) (h1 : -9223372036854775808 ≤ a1) (w : World) :
    Calls Try.prog 6 #[.int .i64 a0, .int .i64 a1] w fun e w' => e = .returned (.bool true) ∧ Below w.heap.size w w' := by
  obtain ⟨⟨fk, fn, ft⟩, fb, hf, hF1, hF2⟩ : ∃ (v : V) (b : Bool), True ∧ (∀ w, Calls Try.prog 22 #[.int .i64 a0] w fun e w' => e = .returned (.tuple #[v.val, .bool b]) ∧ Gro w w') ∧
      (∀ w, Calls Try.prog 23 #[.int .i64 a0] w fun e w' => e = .returned (.tuple #[v.val, .bool b]) ∧ Gro w w') := ⟨_, _, trivial, fun w => first_calls a0 w, fun w => refFirst_calls a0 w⟩
  have HF1 := Lib.hid hF1
  have HF2 := Lib.hid hF2
  clear hf hF1 hF2
  obtain ⟨w0, hw0⟩ : ∃ w0, w0 = w := ⟨_, rfl⟩
  have HW := Lib.hid hw0
  go_enter Try.func6, Try.ntmps6
  clear hw0
  go_wp2_with fail
  refine (HF1.out _).mono ?_
  rintro e w1 ⟨rfl, hg1⟩
  have HG1 := Lib.hid hg1
  clear hg1
  go_wp2_with fail
  refine (HF2.out _).mono ?_
  rintro e w2 ⟨rfl, hg2⟩
  have B5 := (Box.new w1 ⟨fk, fn, ft⟩ 24).later hg2.below
  have HG2 := Lib.hid hg2
  clear hg2
  go_wp2_with fail
  have B5' := B5.alloc (.cells #[.int .i64 fk, .int .i64 fn, .string ft] 24)
  have B7 := Box.new w2 ⟨fk, fn, ft⟩ 24
  have hN2 := fun w => next_calls ⟨2, 0, ⟨#[]⟩⟩ (by simp) w
  rw [next_hid] at hN2
  have HN2 := Lib.hid hN2
  have hN3 := fun w => next_calls ⟨3, 1, ⟨#[]⟩⟩ (by simp) w
  rw [next_tru] at hN3
  have HN3 := Lib.hid hN3
  have hN4 := fun w => next_calls ⟨4, 9223372036854775807, ⟨#[]⟩⟩ (by simp) w
  rw [next_max] at hN4
  have HN4 := Lib.hid hN4
  have hN5 := fun w => next_calls ⟨5, 0, ffs 64⟩ (by simp) w
  rw [next_ffs] at hN5
  have HN5 := Lib.hid hN5
  clear hN2 hN3 hN4 hN5 B5
  go_loop [9, 10] (fun s i => ∃ k : Nat, k ≤ 64 ∧ i = .int .i64 k ∧ s = .string (ffs k)) (fun _ i => 64 - (intOf i).toNat)
  case atStart => exact ⟨0, by omega, rfl, rfl⟩
  case round =>
    obtain ⟨k, hk, rfl, rfl⟩ := hrel
    by_cases hlt : k < 64
    · have hs := ffs_succ k
      have HS := Lib.hid hs
      have hfs : (ffs k).size ≤ 64 := by simp [ffs, ByteArray.size]; omega
      clear hs
      have hlt' : decide ((k : Int) < 64) = true := by simp; omega
      go_wp2
      exact ⟨⟨k + 1, by omega, by go_num, by rw [HS.out]⟩, by simp [intOf]; omega⟩
    · obtain rfl : k = 64 := by omega
      clear hlt hk
      go_wp2_with fail
      refine (HN2.out _).mono ?_
      rintro e w3 ⟨rfl, hg3⟩
      have C5 := B5'.later hg3.below
      have C7 := B7.later hg3.below
      have HG3 := Lib.hid hg3
      clear hg3 B5' B7
      go_wp2_with fail
      refine (HN3.out _).mono ?_
      rintro e w4 ⟨rfl, hg4⟩
      have D5 := (C5.alloc _).later hg4.below
      have D7 := (C7.alloc _).later hg4.below
      have D11 := (Box.new w3 ⟨3, 0, ⟨#[]⟩⟩ 24).later hg4.below
      have HG4 := Lib.hid hg4
      clear hg4 C5 C7
      go_wp2_with fail
      refine (HN4.out _).mono ?_
      rintro e w5 ⟨rfl, hg5⟩
      have E5 := (D5.alloc _).later hg5.below
      have E7 := (D7.alloc _).later hg5.below
      have E11 := (D11.alloc _).later hg5.below
      have E13 := (Box.new w4 ⟨4, -9223372036854775808, ⟨#[]⟩⟩ 24).later hg5.below
      have HG5 := Lib.hid hg5
      clear hg5 D5 D7 D11
      go_wp2_with fail
      refine (HN5.out _).mono ?_
      rintro e w6 ⟨rfl, hg6⟩
      have F5 := (E5.alloc _).later hg6.below
      have F7 := (E7.alloc _).later hg6.below
      have F11 := (E11.alloc _).later hg6.below
      have F13 := (E13.alloc _).later hg6.below
      have F15 := (Box.new w5 ⟨5, 0, ⟨#[]⟩⟩ 24).later hg6.below
      have HG6 := Lib.hid hg6
      clear hg6 E5 E7 E11 E13 HN2 HN3 HN4 HN5
      go_wp2_with fail
      refine (begun_calls _).mono ?_
      rintro e w7 ⟨rfl, hb7⟩
      obtain ⟨l5, q50, q51, q52⟩ := (((F5.alloc _).alloc _).later hb7).cells
      obtain ⟨l7, q70, q71, q72⟩ := (((F7.alloc _).alloc _).later hb7).cells
      obtain ⟨l11, q110, q111, q112⟩ := (((F11.alloc _).alloc _).later hb7).cells
      obtain ⟨l13, q130, q131, q132⟩ := (((F13.alloc _).alloc _).later hb7).cells
      obtain ⟨l15, q150, q151, q152⟩ := (((F15.alloc _).alloc _).later hb7).cells
      obtain ⟨l19, q190, q191, q192⟩ := ((Box.new' w6 _ ⟨4, a1, ⟨#[]⟩⟩ 24).later hb7).cells
      have HB7 := Lib.hid hb7
      clear hb7 F5 F7 F11 F13 F15
      have he := eql_V
      obtain ⟨c1, hc1, hC1⟩ := compare_min a1 h1
      have hC2 := compare_less a1
      have HC1 := Lib.hid hC1
      have HC2 := Lib.hid hC2
      clear hC1 hC2 h1
      go_wp2_with fail
      refine (wide (HC1.out _)).mono ?_
      rintro e w8 ⟨q1, os1, rfl, rfl⟩
      go_wp2_with fail
      refine (wide (HC2.out _)).mono ?_
      rintro e w9 ⟨q2, os2, rfl, rfl⟩
      go_wp2
      go_ret
      have g2 := (HG1.out.alloc _).trans HG2.out
      have g3 := (g2.alloc _).trans HG3.out
      have g4 := (g3.alloc _).trans HG4.out
      have g5 := (g4.alloc _).trans HG5.out
      have g6 := (((g5.alloc _).trans HG6.out).alloc (.cells #[.int .i64 0, .int .i64 0, .string ByteArray.empty] 24)).alloc (.cells #[.int .i64 4, .int .i64 a1, .string ⟨#[]⟩] 24)
      have g7 : Below w.heap.size w w7 := g6.below.trans (HB7.out.mono g6.size)
      exact ⟨rfl, g7.trans (((Gro.refl w7).grown _ _).below.mono g7.size)⟩

set_option maxRecDepth 100000 in
theorem lifted (os : Os) (started : os.Started) (H : Type) (enc : TypeId × Value → H) :
    ReturnsInHanded {} Try.checked os 6 .any (Rows.valueFirstsSpec.pre6 enc Try.prog Try.f6 Rows.valueFirstsRow.domain false) (Rows.valueFirstsSpec.post enc Try.prog Try.f6 false true false false) := by
  refine returnsInHanded_of_change (C := Try.checked) own started (by kernel_rfl) Try.func6
    (ChangeSpec.witness6 (enc := enc) (C := Try.checked) false ⟨#[], #[.int .i64 0, .int .i64 0], []⟩ 8 (by kernel_rfl) (by kernel_rfl) (by kernel_rfl) (by kernel_rfl)) ?_
  intro W base args ds gs before hval0 hW hcnd _
  have hval : ∀ (j : Nat) t v, Try.f6.params[j]? = some t → args[j]? = some v → Value.okWide Try.prog W .any base t v := hval0
  have hW' := hW
  obtain ⟨p, q, hA0, hV, rfl, hfz, hnd⟩ := hW
  have hA : DataW.TrodAll enc Try.prog W 0 (fun _ => true) true Try.f6.params.toList args.toList ds p := hA0
  rw [Try.params6] at hA hval
  obtain ⟨v0, vs0, d0, ds0, p0, q0, hargs, rfl, rfl, h0, r0⟩ := trodAll_cons hA
  obtain ⟨v1, vs1, d1, ds1, p1, q1, rfl, rfl, rfl, h1, r1⟩ := trodAll_cons r0
  obtain ⟨rfl, rfl, rfl⟩ := trodAll_nil r1
  obtain rfl : args = #[v0, v1] := by cases args; simp_all
  obtain ⟨rfl, rfl⟩ := trodVars_none hV
  obtain ⟨a0, rfl, rfl, rfl, w0⟩ := open_int Try.underlying3 (hval 0 3 v0 rfl rfl) h0
  obtain ⟨a1, rfl, rfl, rfl, w1⟩ := open_int Try.underlying2 (hval 1 2 v1 rfl rfl) h1
  clear hA0 hval0
  have hb : -9223372036854775808 ≤ a1 := by
    have := w1
    simp [Lit.wf, IntKind.min, IntKind.max, IntKind.bits, IntKind.signed] at this
    omega
  refine (walk a0 a1 hb W).mono fun e W' ⟨he, bel⟩ => ?_
  subst he
  exact ⟨_, rfl, _, _, _, [], _, [], hW', trodAll_mk1 (shut_bool Try.underlying4 _), (trodAll_cons_mk (shut_int Try.underlying3 w0) (trodAll_cons_mk (shut_int Try.underlying2 w1) trodAll_mk0)), rfl, bel.frame _, fun h => by cases h⟩

theorem over : Rows.valueFirstsRow.holds Try.pinned (OpenSpec.ofChange Rows.valueFirstsSpec) :=
  OpenClaim.holds_of_wide 6 Try.f6 rfl rfl rfl rfl rfl rfl rfl ⟨rfl, rfl, rfl, rfl, rfl⟩ rfl rfl rfl rfl rfl (by kernel_rfl) Try.func6 (by kernel_rfl)
    (of_decide_eq_true (by kernel_rfl)) (by unfold Func.isWrapper; first | (rw [if_pos (by decide +kernel)]; kernel_rfl) | (rw [if_neg (by decide +kernel)]; exact ⟨rfl, rfl⟩))
    (fun os started H enc _ => lifted os started H enc)
theorem proved : Rows.ValueFirstsSaid := over
end Firsts
end Go.Proofs.Ythlhpjickkhjfaa
