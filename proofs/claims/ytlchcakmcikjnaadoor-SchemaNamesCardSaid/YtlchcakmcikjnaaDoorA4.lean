/- The contracts of value.nextText, value.Next and the reference's Next. -/
import Derived.Test.YtlchcakmcikjnaaDoorA3
import Derived.RegionTactic
import Derived.ChangeAlike
import Derived.IntWalk
import Derived.BigRegion
import Derived.Laws.IdiomStrings
set_option linter.unusedSimpArgs false
set_option linter.unusedVariables false
namespace Go.Proofs.YtlchcakmcikjnaaDoor
open Go.RowKit

/-- The greatest place below m whose byte can grow. -/
def lastLow (l : List UInt8) : Nat → Option Nat
  | 0 => none
  | m + 1 => if l.getD m 0 = 255 then lastLow l m else some m
def bump (s : ByteArray) (i : Nat) : ByteArray := s.extract 0 i ++ ⟨#[s.data.toList.getD i 0 + 1]⟩
def more (s : ByteArray) : ByteArray := s ++ ⟨#[0]⟩
/-- The least text above a text. -/
def nextT (s : ByteArray) : Option ByteArray := if s.size < 64 then some (more s) else (lastLow s.data.toList s.size).map (bump s)
def nextTV (s : ByteArray) : Option V := (nextT s).map fun t => ⟨5, 0, t⟩
def zeroV : V := ⟨0, 0, ByteArray.empty⟩
/-- A value and whether there is one. -/
def both (o : Option V) : Value := .tuple #[(o.getD zeroV).val, .bool o.isSome]

theorem wrap_u8 (x : UInt8) (h : (x.toNat : Int) < 255) : IntKind.u8.wrap ((x.toNat : Int) + 1) = ((x + 1).toNat : Int) := by
  have : (x + 1).toNat = x.toNat + 1 := by rw [UInt8.toNat_add]; simp; omega
  rw [this]
  simp [IntKind.wrap, IntKind.bits, IntKind.signed]
  omega
/-- A slice of one byte as a string. -/
theorem conv_one (w : World) (b : Nat) (x : UInt8) (hc : w.cell? ⟨b, 0, none⟩ = some (.int .u8 ((x.toNat : Int)))) :
    (convert 22 9 (.slice (some ⟨b, 0, none⟩) 1 1)).run Tryd.prog w = .ok (.string ⟨#[x]⟩) w :=
  run_convert_bytes_back w 22 9 5 ⟨b, 0, none⟩ 1 [x] Tryd.underlying22 Tryd.underlying5 Tryd.underlying9 (fun j hj => by
    obtain rfl : j = 0 := by simpa using hj
    simpa [Addr.add] using hc)
theorem getD_at (s : ByteArray) (m : Nat) (h : m < s.size) : s.data.toList.getD m 0 = s[m] := by
  rw [List.getD_eq_getElem?_getD, List.getElem?_eq_getElem (by simpa using h)]
  rfl

end Go.Proofs.YtlchcakmcikjnaaDoor
