/- The contracts of the reference's readers of numbers and texts. -/
import Derived.Test.YtllakifmflploaaCg
set_option linter.unusedSimpArgs false
set_option linter.unusedVariables false
namespace Go.Proofs.Ytllakifmflploaa
open Go.RowKit
open Go.Lib (byteCells uvarint zigzag)

theorem or_shift' (acc c i : Nat) (ha : acc < 2 ^ (7 * i)) (hi : i ≤ 9) (hc : c < 128) (h : 1 < c → i < 9) : bits .or .u64 (acc : Int) (IntKind.u64.wrap ((c : Int) * 2 ^ (7 * i))) = ((acc + c * 2 ^ (7 * i) : Nat) : Int) := by
  have := or_shift acc c i ha hi (by omega) h
  have e : (c : Int) % 128 = (c : Int) := by omega
  rw [e, Nat.mod_eq_of_lt hc] at this
  exact this
/-- Where the reference stands. -/
def Mid (R : Except Int (Nat × Nat)) (bs : List UInt8) (p i : Nat) (z : Int) : Prop :=
  (i ≤ 9 ∧ ∃ acc : Nat, z = acc ∧ acc < 2 ^ (7 * i) ∧ p + i ≤ bs.length ∧ R = rdU i acc (bs.drop (p + i))) ∨ (i = 10 ∧ R = .error 21)
def SamePost (v : Value) (w : World) (e : Ending) (w' : World) : Prop := e = .returned v ∧ w = w'
theorem same_post {v u : Value} {w : World} (h : u = v) : SamePost v w (.returned u) w := ⟨by rw [h], rfl⟩
theorem out_err {R : Except Int (Nat × Nat)} {p : Nat} {c : Int} (h : R = .error c) : (.tuple #[.int .u64 0, .int .i64 0, .int .i64 c] : Value) = triple mkU (outOf 0 p R) := by rw [h]; rfl
theorem out_ok {R : Except Int (Nat × Nat)} {p x k : Nat} {y z : Int} (h : R = .ok (x, k)) (h1 : y = x) (h2 : z = ((p + k : Nat) : Int)) : (.tuple #[.int .u64 y, .int .i64 z, .int .i64 0] : Value) = triple mkU (outOf 0 p R) := by rw [h, h1, h2]; rfl

end Go.Proofs.Ytllakifmflploaa
