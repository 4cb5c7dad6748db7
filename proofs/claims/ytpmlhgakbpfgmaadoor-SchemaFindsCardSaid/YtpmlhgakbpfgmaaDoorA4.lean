/- The contracts of value.nextText, value.Next and the reference's Next. -/
import Derived.Test.YtpmlhgakbpfgmaaDoorA2
import Derived.RegionTactic
import Derived.ChangeAlike
import Derived.IntWalk
import Derived.BigRegion
import Derived.Laws.IdiomStrings
set_option linter.unusedSimpArgs false
set_option linter.unusedVariables false
namespace Go.Proofs.YtpmlhgakbpfgmaaDoor
open Go.RowKit

/-- The greatest place below m whose byte can grow. -/
def lastLow (l : List UInt8) : Nat → Option Nat
  | 0 => none
  | m + 1 => if l.getD m 0 = 255 then lastLow l m else some m
def bump (s : ByteArray) (i : Nat) : ByteArray := s.extract 0 i ++ ⟨#[s.data.toList.getD i 0 + 1]⟩
def more (s : ByteArray) : ByteArray := s ++ ⟨#[0]⟩
/-- The least text above a text. -/
def nextT (s : ByteArray) : Option ByteArray := if s.size < 64 then some (more s) else (lastLow s.data.toList s.size).map (bump s)
def nextTV (s : ByteArray) : Option V := (nextT s).map fun t => ⟨5, 0, t⟩
def zeroV : V := ⟨0, 0, ByteArray.empty⟩
/-- A value and whether there is one. -/
def both (o : Option V) : Value := .tuple #[(o.getD zeroV).val, .bool o.isSome]

theorem wrap_u8 (x : UInt8) (h : (x.toNat : Int) < 255) : IntKind.u8.wrap ((x.toNat : Int) + 1) = ((x + 1).toNat : Int) := by
  have : (x + 1).toNat = x.toNat + 1 := by rw [UInt8.toNat_add]; simp; omega
  rw [this]
  simp [IntKind.wrap, IntKind.bits, IntKind.signed]
  omega
/-- A slice of one byte as a string. -/
theorem conv_one (w : World) (b : Nat) (x : UInt8) (hc : w.cell? ⟨b, 0, none⟩ = some (.int .u8 ((x.toNat : Int)))) :
    (convert 22 9 (.slice (some ⟨b, 0, none⟩) 1 1)).run Tryd.prog w = .ok (.string ⟨#[x]⟩) w :=
  run_convert_bytes_back w 22 9 5 ⟨b, 0, none⟩ 1 [x] Tryd.underlying22 Tryd.underlying5 Tryd.underlying9 (fun j hj => by
    obtain rfl : j = 0 := by simpa using hj
    simpa [Addr.add] using hc)
theorem getD_at (s : ByteArray) (m : Nat) (h : m < s.size) : s.data.toList.getD m 0 = s[m] := by
  rw [List.getD_eq_getElem?_getD, List.getElem?_eq_getElem (by simpa using h)]
  rfl

end Go.Proofs.YtpmlhgakbpfgmaaDoor
/- The contracts of value.Next and the reference's Next. -/
set_option linter.unusedSimpArgs false
set_option linter.unusedVariables false
namespace Go.Proofs.YtpmlhgakbpfgmaaDoor
open Go.RowKit

/-- The least valid value above a value. -/
def nextV (v : V) : Option V :=
  if validB v = false then none
  else if v.k = 1 then some ⟨2, 0, ByteArray.empty⟩
  else if v.k = 2 then some ⟨3, 0, ByteArray.empty⟩
  else if v.k = 3 then (if v.n = 0 then some ⟨3, 1, ByteArray.empty⟩ else some ⟨4, -9223372036854775808, ByteArray.empty⟩)
  else if v.k = 4 then (if v.n < 9223372036854775807 then some ⟨4, v.n + 1, ByteArray.empty⟩ else some ⟨5, 0, ByteArray.empty⟩)
  else nextTV v.t
theorem nextV_invalid {v : V} (h : validB v = false) : nextV v = none := by unfold nextV; rw [if_pos h]
theorem nextV_text {t : ByteArray} (h : validB ⟨5, 0, t⟩ = true) : nextV ⟨5, 0, t⟩ = nextTV t := by unfold nextV; simp [h]
theorem nextV_int {n : Int} (h : n < 9223372036854775807) : nextV ⟨4, n, ByteArray.empty⟩ = some ⟨4, n + 1, ByteArray.empty⟩ := by unfold nextV; simp [h, validB, validP]
theorem nextV_last {n : Int} (h : ¬ n < 9223372036854775807) : nextV ⟨4, n, ByteArray.empty⟩ = some ⟨5, 0, ByteArray.empty⟩ := by unfold nextV; simp [h, validB, validP]
theorem both_none : both none = .tuple #[V.val ⟨0, 0, ByteArray.empty⟩, .bool false] := rfl
theorem both_some (v : V) : both (some v) = .tuple #[v.val, .bool true] := rfl

theorem box2 {W w : World} {x y z : Value} {T : TypeId} {o : Obj} {q : Nat} {os : Array Obj} (hW : W = Sort.grow (((w.alloc (.cells #[x, y, z] T)).alloc o).drewN q) os) (m : Nat) (os' : Array Obj) :
    (Sort.grow (W.drewN m) os').cell? ⟨w.heap.size, 0, none⟩ = some x ∧ (Sort.grow (W.drewN m) os').cell? ⟨w.heap.size, 1, none⟩ = some y ∧ (Sort.grow (W.drewN m) os').cell? ⟨w.heap.size, 2, none⟩ = some z := by
  subst hW
  refine ⟨?_, ?_, ?_⟩ <;> go_simp

theorem wrap_next (n : Int) (h0 : -9223372036854775808 ≤ n) (h : n < 9223372036854775807) : wrap64 (n + 1) = n + 1 := by
  unfold wrap64
  omega
end Go.Proofs.YtpmlhgakbpfgmaaDoor
