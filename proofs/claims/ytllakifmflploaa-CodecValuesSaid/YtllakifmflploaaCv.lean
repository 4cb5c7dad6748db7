/- The contract of codec.AppendValue. -/
import Derived.Test.YtllakifmflploaaCl
import Derived.Test.YtllakifmflploaaG
import Derived.Test.YtllakifmflploaaKa
set_option linter.unusedSimpArgs false
set_option linter.unusedVariables false
namespace Go.Proofs.Ytllakifmflploaa
open Go.RowKit
open Go.Lib (byteCells uvarint zigzag)

theorem clip_exact (a : Option Addr) (cap N : Nat) (w : World) (h1 : N ≤ cap) (h2 : cap ≤ maxLen) (h3 : a = none → cap = 0) : Calls Try.prog 80 #[.slice a N cap] w fun e w' => e = .returned (.slice a N N) ∧ w' = w := by
  cases a with
  | none =>
    obtain rfl : cap = 0 := h3 rfl
    obtain rfl : N = 0 := by omega
    go_enter Try.func80, Try.ntmps80
    go_wp2
    go_ret
    exact ⟨rfl, rfl⟩
  | some a =>
    go_enter Try.func80, Try.ntmps80
    go_wp2
    go_ret
    exact ⟨rfl, rfl⟩
/-- What AppendValue leaves. -/
def ValOut (bs : List UInt8) (x : V) (w : World) (e : Ending) (w' : World) : Prop :=
  if validB x = true then ∃ v, e = .returned (.tuple #[v, .int .i64 0]) ∧ Own w.heap.size w' v (bs ++ encV x) ∧ Below w.heap.size w w'
  else e = .returned (.tuple #[.slice none 0 0, .int .i64 10]) ∧ Below w.heap.size w w'
theorem valOut_good {bs : List UInt8} {x : V} {w w' : World} {v u : Value} (h : validB x = true) (hu : u = .tuple #[v, .int .i64 0]) (ho : Own w.heap.size w' v (bs ++ encV x)) (hb : Below w.heap.size w w') : ValOut bs x w (.returned u) w' := by
  unfold ValOut; rw [if_pos h, hu]; exact ⟨v, rfl, ho, hb⟩
theorem valOut_bad {bs : List UInt8} {x : V} {w w' : World} {u : Value} (h : ¬ validB x = true) (hu : u = .tuple #[.slice none 0 0, .int .i64 10]) (hb : Below w.heap.size w w') : ValOut bs x w (.returned u) w' := by
  unfold ValOut; rw [if_neg h, hu]; exact ⟨rfl, hb⟩
/-- The box of a value, behind new blocks. -/
theorem box_gro {w w1 : World} {x y z : Value} {T : TypeId} (h : Gro (w.alloc (.cells #[x, y, z] T)) w1) : w.heap.size < w1.heap.size ∧ w1.cell? ⟨w.heap.size, 0, none⟩ = some x ∧ w1.cell? ⟨w.heap.size, 1, none⟩ = some y ∧ w1.cell? ⟨w.heap.size, 2, none⟩ = some z := by
  have hg := gro_by h none
  have hs := h.size
  simp at hs
  exact ⟨by omega, hg.cell (by go_simp) (by simp), hg.cell (by go_simp) (by simp), hg.cell (by go_simp) (by simp)⟩
set_option maxHeartbeats 1000000 in
set_option maxRecDepth 100000 in
theorem AppendValue_calls (v : Value) (bs : List UInt8) (x : V) (w : World) (hv : BytesAt w v bs) (hl : bs.length ≤ 100000000000) (hn : isI64 x.n) :
    Calls Try.prog 22 #[v, x.val] w (ValOut bs x w) := by
  obtain ⟨a, cap, rfl, h1, h2, h3, -⟩ := id hv
  have HV := Lib.hid hv
  have HX := Lib.hid hn
  have hvc := valid_calls x (w.alloc (.cells #[.int .i64 x.k, .int .i64 x.n, .string x.t] 35))
  have hmx := mixed
  by_cases hvx : validB x = true
  · rw [hvx] at hvc
    have HVC := Lib.hid hvc
    have HVX := Lib.hid hvx
    have hcl : ∀ w', Calls Try.prog 80 #[.slice a bs.length cap] w' fun e w'' => e = .returned (.slice a bs.length bs.length) ∧ w'' = w' := fun w' => clip_exact a cap bs.length w' h1 h2 h3
    have hfull : ∀ w', Below w.heap.size w w' → Wide w.heap.size w' (.slice a bs.length bs.length) bs := fun w' hb => by
      have hb' := hv.later hb
      obtain ⟨a2, cap2, e, k1, k2, k3, k4⟩ := hb'
      simp only [Value.slice.injEq, true_and] at e
      obtain ⟨rfl, rfl⟩ := e
      exact .inr ⟨⟨a, bs.length, rfl, Nat.le_refl _, Nat.le_trans h1 h2, fun e => by have := k3 e; omega, k4⟩, a, rfl⟩
    have HCL := Lib.hid hcl
    have HF := Lib.hid hfull
    generalize hN : bs.length = N at HCL HF h1 hl ⊢
    have HN := Lib.hid hN
    obtain ⟨xk, xn, xt⟩ := x
    clear hv hn hvc hvx hcl hfull h3 hN
    go_enter Try.func22, Try.ntmps22
    go_wp2_with fail
    refine HVC.out.mono ?_
    rintro e w2 ⟨rfl, hg⟩
    obtain ⟨s0, c0, c1, c2⟩ := box_gro hg
    have HB : Hid (Below w.heap.size w w2) := ((Below.refl _ _).alloc (Nat.le_refl _) _).trans (hg.below.mono (by simp))
    have hcl' := HCL.out
    clear hg HCL
    go_wp2_with fail
    refine still_tail_drew 3 hmx (by kernel_rfl) ?_
    simp only [List.take_succ_cons, List.take_zero, List.drop_succ_cons, List.drop_zero]
    repeat still_step
    still_call (hcl' _)
    repeat still_step
    refine wpStill_nil ?_
    have hav := appendValue_calls w.heap.size (.slice a N N) bs ⟨xk, xn, xt⟩ HVX.out HX.out w2.drew (HF.out _ ⟨HB.out.os, HB.out.tape, HB.out.output, HB.out.size, HB.out.block⟩) HB.out.size (by rw [HN.out]; omega)
    have HAV := Lib.hid hav
    clear hav hcl'
    go_wp2_with fail
    refine HAV.out.mono ?_
    rintro e w3 ⟨v3, rfl, ho3, hb3⟩
    have HO3 := Lib.hid ho3
    have HB3 := Lib.hid hb3
    clear ho3 hb3
    go_wp2
    go_ret2
    exact valOut_good HVX.out rfl HO3.out (HB.out.drew.trans HB3.out)
  · have hvf : validB x = false := by simpa using hvx
    rw [hvf] at hvc
    have HVC := Lib.hid hvc
    have HVX := Lib.hid hvx
    obtain ⟨xk, xn, xt⟩ := x
    clear hv hn hvc hvx hvf h3
    go_enter Try.func22, Try.ntmps22
    go_wp2_with fail
    refine HVC.out.mono ?_
    rintro e w2 ⟨rfl, hg⟩
    have HB : Hid (Below w.heap.size w w2) := ((Below.refl _ _).alloc (Nat.le_refl _) _).trans (hg.below.mono (by simp))
    clear hg
    go_wp2
    go_ret2
    exact valOut_bad HVX.out rfl HB.out
end Go.Proofs.Ytllakifmflploaa
