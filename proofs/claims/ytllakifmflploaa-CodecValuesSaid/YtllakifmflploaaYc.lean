/- The contract of the reference's AppendValue; how long values and rows are. -/
import Derived.Test.YtllakifmflploaaCv
import Derived.Test.YtllakifmflploaaYa
import Derived.Test.YtllakifmflploaaCn
import Derived.Test.YtllakifmflploaaCo
set_option linter.unusedSimpArgs false
set_option linter.unusedVariables false
namespace Go.Proofs.Ytllakifmflploaa
open Go.RowKit
open Go.Lib (byteCells uvarint zigzag)

set_option maxHeartbeats 1000000 in
set_option maxRecDepth 100000 in
theorem refAppendValue_calls (v : Value) (bs : List UInt8) (x : V) (w : World) (hv : BytesAt w v bs) (hl : bs.length ≤ 100000000000) (hn : isI64 x.n) :
    Calls Try.prog 23 #[v, x.val] w (ValOut bs x w) := by
  have HV := Lib.hid hv
  have HX := Lib.hid hn
  have HL := Lib.hid hl
  have hvc := refValid_calls x (w.alloc (.cells #[.int .i64 x.k, .int .i64 x.n, .string x.t] 35))
  have hmx := mixed
  by_cases hvx : validB x = true
  · rw [hvx] at hvc
    have HVC := Lib.hid hvc
    have HVX := Lib.hid hvx
    obtain ⟨xk, xn, xt⟩ := x
    clear hv hn hl hvc hvx
    go_enter Try.func23, Try.ntmps23
    go_wp2_with fail
    refine HVC.out.mono ?_
    rintro e w2 ⟨rfl, hg⟩
    obtain ⟨s0, c0, c1, c2⟩ := box_gro hg
    have HB : Hid (Below w.heap.size w w2) := ((Below.refl _ _).alloc (Nat.le_refl _) _).trans (hg.below.mono (by simp))
    have hfr := fresh_calls v bs w2.drew ((HV.out.later HB.out).later ⟨rfl, rfl, rfl, Nat.le_refl _, fun _ _ => rfl⟩) (by have := HL.out; omega)
    have HFR := Lib.hid hfr
    clear hg hfr HVC
    go_wp2_with fail
    go_region_held3 (fun w' => w'.cell? ⟨w.heap.size, 0, none⟩ = some (.int .i64 xk) ∧ w'.cell? ⟨w.heap.size, 1, none⟩ = some (.int .i64 xn) ∧ w'.cell? ⟨w.heap.size, 2, none⟩ = some (.string xt)) (go_keep)
      (first
        | (go_at_call 83; refine HFR.out.mono ?_; rintro e w3 ⟨v3, rfl, ho3, hb3⟩; have d0 : w3.cell? ⟨w.heap.size, 0, none⟩ = some (.int .i64 xk) := (hb3.cell (p := ⟨w.heap.size, 0, none⟩) s0).trans c0; have d1 : w3.cell? ⟨w.heap.size, 1, none⟩ = some (.int .i64 xn) := (hb3.cell (p := ⟨w.heap.size, 1, none⟩) s0).trans c1; have d2 : w3.cell? ⟨w.heap.size, 2, none⟩ = some (.string xt) := (hb3.cell (p := ⟨w.heap.size, 2, none⟩) s0).trans c2; have hav := refValue_calls w2.heap.size v3 bs ⟨xk, xn, xt⟩ HVX.out HX.out w3 (.inl ho3) hb3.size (by have := HL.out; omega); have HAV := Lib.hid hav; have HB3 := Lib.hid hb3; clear ho3 hb3 hav)
        | (go_at_call 82; refine HAV.out.mono ?_; rintro e w4 ⟨v4, rfl, ho4, hb4⟩; have e0 : w4.cell? ⟨w.heap.size, 0, none⟩ = some (.int .i64 xk) := (hb4.cell (p := ⟨w.heap.size, 0, none⟩) s0).trans d0; have e1 : w4.cell? ⟨w.heap.size, 1, none⟩ = some (.int .i64 xn) := (hb4.cell (p := ⟨w.heap.size, 1, none⟩) s0).trans d1; have e2 : w4.cell? ⟨w.heap.size, 2, none⟩ = some (.string xt) := (hb4.cell (p := ⟨w.heap.size, 2, none⟩) s0).trans d2; have HO4 := Lib.hid ho4; have HB4 := Lib.hid hb4; clear ho4 hb4))
    go_wp2
    go_ret2
    exact valOut_good HVX.out rfl (Own.mono HO4.out HB.out.size) ((HB.out.drew.trans (HB3.out.mono HB.out.size)).trans (HB4.out.mono HB.out.size))
  · have hvf : validB x = false := by simpa using hvx
    rw [hvf] at hvc
    have HVC := Lib.hid hvc
    have HVX := Lib.hid hvx
    obtain ⟨xk, xn, xt⟩ := x
    clear hv hn hl hvc hvx hvf
    go_enter Try.func23, Try.ntmps23
    go_wp2_with fail
    refine HVC.out.mono ?_
    rintro e w2 ⟨rfl, hg⟩
    have HB : Hid (Below w.heap.size w w2) := ((Below.refl _ _).alloc (Nat.le_refl _) _).trans (hg.below.mono (by simp))
    clear hg
    go_wp2
    go_ret2
    exact valOut_bad HVX.out rfl HB.out

def vsize (x : V) : Int := if validB x = true then ((encV x).length : Int) else 0
def rsize (r : List V) : Int := if 12 < r.length then 0 else if r.all validB = true then ((encR r).length : Int) else 0
theorem valOut_size {x : V} {w w' : World} {e : Ending} (h : ValOut [] x w e w') : ∃ (a : Option Addr) (n cap : Nat) (c : Int), e = .returned (.tuple #[.slice a n cap, .int .i64 c]) ∧ vsize x = n ∧ Below w.heap.size w w' := by
  unfold ValOut at h
  unfold vsize
  split at h
  · obtain ⟨v, rfl, ho, hb⟩ := h
    obtain ⟨va, vc, rfl, -, -, -, -⟩ := bytes_value ho.at_
    exact ⟨va, _, vc, 0, rfl, by simp_all, hb⟩
  · obtain ⟨rfl, hb⟩ := h
    exact ⟨none, 0, 0, 10, rfl, by simp_all, hb⟩
theorem rowOut_size {r : List V} {w w' : World} {e : Ending} (h : RowOut [] r w e w') : ∃ (a : Option Addr) (n cap : Nat) (c : Int), e = .returned (.tuple #[.slice a n cap, .int .i64 c]) ∧ rsize r = n ∧ Below w.heap.size w w' := by
  unfold RowOut at h
  unfold rsize
  split at h
  · obtain ⟨rfl, hb⟩ := h
    exact ⟨none, 0, 0, 2, rfl, by simp_all, hb⟩
  · split at h
    · obtain ⟨v, rfl, ho, hb⟩ := h
      obtain ⟨va, vc, rfl, -, -, -, -⟩ := bytes_value ho.at_
      refine ⟨va, _, vc, 0, rfl, ?_, hb⟩
      rw [if_neg ‹_›, if_pos ‹_›]; simp
    · obtain ⟨rfl, hb⟩ := h
      refine ⟨none, 0, 0, 10, rfl, ?_, hb⟩
      rw [if_neg ‹_›, if_neg ‹_›]; rfl
def SizePost (n : Int) (w : World) (e : Ending) (w' : World) : Prop := e = .returned (.int .i64 n) ∧ Below w.heap.size w w'
theorem Size_calls (x : V) (hn : isI64 x.n) (w : World) : Calls Try.prog 25 #[x.val] w (SizePost (vsize x) w) := by
  have hA := AppendValue_calls (.slice none 0 0) [] x (w.alloc (.cells #[.int .i64 x.k, .int .i64 x.n, .string x.t] 35)) (bytes_nil _) (by simp) hn
  have HA := Lib.hid hA
  generalize hs : vsize x = s
  have HS := Lib.hid hs
  obtain ⟨xk, xn, xt⟩ := x
  clear hA hn hs
  go_enter Try.func25, Try.ntmps25
  go_wp2_with fail
  refine HA.out.mono ?_
  intro e w2 ho
  obtain ⟨a, n, cap, c, rfl, hv, hb⟩ := valOut_size ho
  rw [HS.out] at hv
  have HV := Lib.hid hv
  have HB := Lib.hid hb
  clear ho hv hb HA
  go_wp2
  go_ret
  exact ⟨ret_i HV.out.symm, ((Below.refl _ _).alloc (Nat.le_refl _) _).trans (HB.out.mono (by simp))⟩
theorem refSize_calls (x : V) (hn : isI64 x.n) (w : World) : Calls Try.prog 26 #[x.val] w (SizePost (vsize x) w) := by
  have hA := refAppendValue_calls (.slice none 0 0) [] x (w.alloc (.cells #[.int .i64 x.k, .int .i64 x.n, .string x.t] 35)) (bytes_nil _) (by simp) hn
  have HA := Lib.hid hA
  generalize hs : vsize x = s
  have HS := Lib.hid hs
  obtain ⟨xk, xn, xt⟩ := x
  clear hA hn hs
  go_enter Try.func26, Try.ntmps26
  go_wp2_with fail
  refine HA.out.mono ?_
  intro e w2 ho
  obtain ⟨a, n, cap, c, rfl, hv, hb⟩ := valOut_size ho
  rw [HS.out] at hv
  have HV := Lib.hid hv
  have HB := Lib.hid hb
  clear ho hv hb HA
  go_wp2
  go_ret
  exact ⟨ret_i HV.out.symm, ((Below.refl _ _).alloc (Nat.le_refl _) _).trans (HB.out.mono (by simp))⟩
theorem RowSize_calls (vr : Value) (r : List V) (w : World) (hr : RowAt w vr r) (hn : ∀ x ∈ r, isI64 x.n) : Calls Try.prog 31 #[vr] w (SizePost (rsize r) w) := by
  have hA := AppendRow_calls (.slice none 0 0) vr [] r w (bytes_nil _) (by simp) hr hn
  have HA := Lib.hid hA
  clear hA hn hr
  go_enter Try.func31, Try.ntmps31
  go_wp2_with fail
  refine HA.out.mono ?_
  intro e w2 ho
  obtain ⟨a, n, cap, c, rfl, hv, hb⟩ := rowOut_size ho
  have HV := Lib.hid hv
  have HB := Lib.hid hb
  clear ho hv hb HA
  go_wp2
  go_ret
  exact ⟨ret_i HV.out.symm, HB.out⟩
theorem refRowSize_calls (vr : Value) (r : List V) (w : World) (hr : RowAt w vr r) (hn : ∀ x ∈ r, isI64 x.n) : Calls Try.prog 32 #[vr] w (SizePost (rsize r) w) := by
  have hA := refAppendRow_calls (.slice none 0 0) vr [] r w (bytes_nil _) (by simp) hr hn
  have HA := Lib.hid hA
  clear hA hn hr
  go_enter Try.func32, Try.ntmps32
  go_wp2_with fail
  refine HA.out.mono ?_
  intro e w2 ho
  obtain ⟨a, n, cap, c, rfl, hv, hb⟩ := rowOut_size ho
  have HV := Lib.hid hv
  have HB := Lib.hid hb
  clear ho hv hb HA
  go_wp2
  go_ret
  exact ⟨ret_i HV.out.symm, HB.out⟩
end Go.Proofs.Ytllakifmflploaa
