/- The contracts of codec's exported readers of numbers and texts. -/
import Derived.Test.YtllakifmflploaaCe
import Derived.Recover
import Derived.RegionTactic
set_option linter.unusedSimpArgs false
set_option linter.unusedVariables false
namespace Go.Proofs.Ytllakifmflploaa
open Go.RowKit
open Go.Lib (byteCells uvarint zigzag)

set_option maxRecDepth 100000 in
theorem reason_ok (w : World) : Calls Try.prog 120 #[.nilIface] w fun e w' => e = .returned (.int .i64 0) ∧ w = w' := by
  go_enter Try.func120, Try.ntmps120
  go_wp2
  go_ret
  exact ⟨rfl, rfl⟩
theorem assert_errno (c : Int) (w : World) : (Instr.typeAssert (.iface 38 (.int .i64 c)) 20 38 false).run Try.prog w = .ok (.int .i64 c) w := by kernel_rfl
set_option maxRecDepth 100000 in
theorem reason_err (c : Int) (w : World) : Calls Try.prog 120 #[.iface 38 (.int .i64 c)] w fun e w' => e = .returned (.int .i64 c) ∧ w = w' := by
  have ha := assert_errno c w
  go_enter Try.func120, Try.ntmps120
  go_wp2
  go_ret
  exact ⟨rfl, rfl⟩
set_option maxRecDepth 100000 in
theorem Uint_idle (p : Addr) (x : Value) (w : World) (hc : w.cell? p = some x) (hz : w.frozen? p = false) :
    CallsD Try.prog 119 #[.pointer (some p)] .returning w fun e u' w' => e = .returned (.tuple #[]) ∧ u' = .returning ∧ w' = w.setCell p (.int .i64 0) := by
  refine callsD_of_wpS Try.func119 rfl fun c₀ cs hu => ?_
  apply wpS_region
  simp [wpOpsS, go_sem, recoverD, hu, Try.ntmps119, Exit.thenS]
  refine (reason_ok _).mono ?_
  rintro e w' ⟨rfl, rfl⟩
  cases c₀
  simp_all [go_sem, bodyPostS, results, Try.results119]
set_option maxRecDepth 100000 in
theorem Uint_stops (p : Addr) (x : Value) (c : Int) (w : World) (hc : w.cell? p = some x) (hz : w.frozen? p = false) :
    CallsD Try.prog 119 #[.pointer (some p)] (.panicking (pan c)) w fun e u' w' =>
      e = .returned (.tuple #[]) ∧ u' = .panicking [{ v := .iface 38 (.int .i64 c), recovered := true }] ∧ w' = w.setCell p (.int .i64 c) := by
  refine callsD_of_wpS Try.func119 rfl fun c₀ cs hu => ?_
  apply wpS_region
  simp [wpOpsS, go_sem, recoverD, hu, Try.ntmps119, Exit.thenS]
  refine (reason_err _ _).mono ?_
  rintro e w' ⟨rfl, rfl⟩
  simp [go_sem, hc, hz, bodyPostS, results, Try.results119]
theorem bytes_value {w : World} {v : Value} {bs : List UInt8} (h : BytesAt w v bs) : ∃ a cap, v = .slice a bs.length cap ∧ bs.length ≤ cap ∧ cap ≤ maxLen ∧ (a = none → cap = 0) ∧ Laid w a bs := by
  obtain ⟨a, cap, h1, h2, h3, h4, h5⟩ := h
  exact ⟨a, cap, h1, h2, h3, h4, h5⟩
theorem Laid.lt {w : World} {a : Option Addr} {bs : List UInt8} (h : Laid w a bs) (o : Obj) : bs = [] ∨ ∃ g off, a = some ⟨g, off, none⟩ ∧ g < (w.alloc o).heap.size ∧ g ≠ w.heap.size ∧ ∀ i (h : i < bs.length), (w.alloc o).cell? ⟨g, off + i, none⟩ = some (.int .u8 (bs[i].toNat : Int)) :=
  h.imp id fun ⟨g, off, h1, h2, h3⟩ => ⟨g, off, h1, by simp; omega, by omega, fun i hi => by rw [World.cell?_alloc_past _ _ _ h2]; exact h3 i hi⟩
/-- A decoder that has just been made. -/
theorem dec_new {w : World} {a : Option Addr} {cap : Nat} {bs : List UInt8} (T : TypeId) (p : Nat) (h : Laid w a bs) (hp : p ≤ bs.length) (hf : bs.length ≤ 1099511627776) (hr : bs.length ≤ cap) (hm : cap ≤ maxLen) (hn : a = none → cap = 0) :
    Dec (w.alloc (.cells #[.slice a bs.length cap, .int .i64 (p : Int)] T)) w.heap.size a cap bs p :=
  ⟨by simp, by go_simp, by go_simp, by go_simp, hp, hf, hr, hm, hn, h.lt _⟩
def GotDec (a : Option Addr) (cap : Nat) (bs : List UInt8) (p : Nat) (w : World) (e : Ending) (w' : World) : Prop := ∃ d, e = .returned (.pointer (some ⟨d, 0, none⟩)) ∧ w.heap.size ≤ d ∧ Dec w' d a cap bs p ∧ w.grownBy w' none
set_option maxRecDepth 100000 in
theorem begin_ok (a : Option Addr) (cap : Nat) (bs : List UInt8) (p : Nat) (w : World) (h : Laid w a bs) (hp : p ≤ bs.length) (hf : bs.length ≤ 1099511627776) (hr : bs.length ≤ cap) (hm : cap ≤ maxLen) (hn : a = none → cap = 0) :
    Calls Try.prog 121 #[.slice a bs.length cap, .int .i64 (p : Int)] w (GotDec a cap bs p w) := by
  have hd := dec_new (w := w) 115 p h hp hf hr hm hn
  have HD := Lib.hid hd
  generalize hN : bs.length = N at hd hp hf hr ⊢
  have HN := Lib.hid hN
  have d1 : decide ((0 : Int) ≤ (p : Int)) = true := by simp
  have d2 : decide ((p : Int) ≤ (N : Int)) = true := by simp; omega
  have d3 : decide (p ≤ N) = true := by simp; omega
  clear hd h hN hn
  go_enter Try.func121, Try.ntmps121
  go_wp2_with fail
  ((with_reducible refine (require_yes _ _).mono ?_); rintro e w3 ⟨rfl, rfl⟩)
  go_wp2
  go_ret
  exact ⟨w.heap.size, rfl, Nat.le_refl _, by have := HD.out; rw [HN.out] at this; exact this, World.grownBy_alloc _ _ _⟩
set_option maxRecDepth 100000 in
theorem begin_no (a : Option Addr) (cap N : Nat) (p : Int) (w : World) (h : p < 0 ∨ (N : Int) < p) :
    Calls Try.prog 121 #[.slice a N cap, .int .i64 p] w fun e w' => e = .panicked (pan 1) ∧ w = w' := by
  rcases h with h | h
  · have d1 : decide ((0 : Int) ≤ p) = false := by simp; omega
    go_enter Try.func121, Try.ntmps121
    go_wp2_with fail
    ((with_reducible refine (require_no _ _).mono ?_); rintro e w3 ⟨rfl, rfl⟩)
    go_wp2
    exact ⟨rfl, rfl, rfl⟩
  · have d1 : decide ((0 : Int) ≤ p) = true := by simp; omega
    have d2 : decide (p ≤ (N : Int)) = false := by simp; omega
    go_enter Try.func121, Try.ntmps121
    go_wp2_with fail
    ((with_reducible refine (require_no _ _).mono ?_); rintro e w3 ⟨rfl, rfl⟩)
    go_wp2
    exact ⟨rfl, rfl, rfl⟩
end Go.Proofs.Ytllakifmflploaa
