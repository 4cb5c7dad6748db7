/- The contracts of value.nextText, value.Next and the reference's Next. -/
import Derived.Test.YtllakifmflploaaA3
import Derived.RegionTactic
import Derived.ChangeAlike
import Derived.IntWalk
import Derived.BigRegion
import Derived.Laws.IdiomStrings
set_option linter.unusedSimpArgs false
set_option linter.unusedVariables false
namespace Go.Proofs.Ytllakifmflploaa
open Go.RowKit

/-- The greatest place below m whose byte can grow. -/
def lastLow (l : List UInt8) : Nat → Option Nat
  | 0 => none
  | m + 1 => if l.getD m 0 = 255 then lastLow l m else some m
def bump (s : ByteArray) (i : Nat) : ByteArray := s.extract 0 i ++ ⟨#[s.data.toList.getD i 0 + 1]⟩
def more (s : ByteArray) : ByteArray := s ++ ⟨#[0]⟩
/-- The least text above a text. -/
def nextT (s : ByteArray) : Option ByteArray := if s.size < 64 then some (more s) else (lastLow s.data.toList s.size).map (bump s)
def nextTV (s : ByteArray) : Option V := (nextT s).map fun t => ⟨5, 0, t⟩
def zeroV : V := ⟨0, 0, ByteArray.empty⟩
/-- A value and whether there is one. -/
def both (o : Option V) : Value := .tuple #[(o.getD zeroV).val, .bool o.isSome]

theorem wrap_u8 (x : UInt8) (h : (x.toNat : Int) < 255) : IntKind.u8.wrap ((x.toNat : Int) + 1) = ((x + 1).toNat : Int) := by
  have : (x + 1).toNat = x.toNat + 1 := by rw [UInt8.toNat_add]; simp; omega
  rw [this]
  simp [IntKind.wrap, IntKind.bits, IntKind.signed]
  omega
/-- A slice of one byte as a string. -/
theorem conv_one (w : World) (b : Nat) (x : UInt8) (hc : w.cell? ⟨b, 0, none⟩ = some (.int .u8 ((x.toNat : Int)))) :
    (convert 22 9 (.slice (some ⟨b, 0, none⟩) 1 1)).run Try.prog w = .ok (.string ⟨#[x]⟩) w :=
  run_convert_bytes_back w 22 9 5 ⟨b, 0, none⟩ 1 [x] Try.underlying22 Try.underlying5 Try.underlying9 (fun j hj => by
    obtain rfl : j = 0 := by simpa using hj
    simpa [Addr.add] using hc)
theorem getD_at (s : ByteArray) (m : Nat) (h : m < s.size) : s.data.toList.getD m 0 = s[m] := by
  rw [List.getD_eq_getElem?_getD, List.getElem?_eq_getElem (by simpa using h)]
  rfl

set_option maxRecDepth 100000 in
theorem nextText_calls (s : ByteArray) (w : World) (hs : s.size ≤ 64) : Calls Try.prog 113 #[.string s] w fun e w' => e = .returned (both (nextTV s)) ∧ Gro w w' := by
  have mx := mixed
  by_cases h : s.size < 64
  · have e1 : both (nextTV s) = .tuple #[V.val ⟨5, 0, more s⟩, .bool true] := by simp [nextTV, nextT, h, both]
    rw [e1]
    clear e1
    have h' : decide ((s.size : Int) < 64) = true := by simp; omega
    go_enter Try.func113, Try.ntmps113
    go_wp2_with (go_at_call 114; refine (wide (text_calls _ _)).mono ?_; rintro e w' ⟨q, os, rfl, rfl⟩)
    exact bodyPost_ret (v := .tuple #[V.val ⟨5, 0, more s⟩, .bool true]) (by simp [results, Try.results113, go_sem, V.val, more]; try rfl) rfl ⟨rfl, ((Gro.refl _).alloc _).grown _ _⟩
  · have h' : decide ((s.size : Int) < 64) = false := by simp; omega
    go_enter Try.func113, Try.ntmps113
    go_wp2
    go_loop [4] (fun i => ∃ m : Nat, m ≤ s.size ∧ i = .int .i64 ((m : Int) - 1) ∧ lastLow s.data.toList m = lastLow s.data.toList s.size) (fun i => (intOf i + 1).toNat)
    case atStart => exact ⟨s.size, Nat.le_refl _, rfl, rfl⟩
    case round =>
      obtain ⟨m, hm, hi, hl⟩ := hrel
      have HL := Lib.hid hl
      clear hl
      rcases m with _ | m
      · subst hi
        have e1 : both (nextTV s) = .tuple #[V.val ⟨0, 0, ByteArray.empty⟩, .bool false] := by
          have e2 := HL.out
          simp only [lastLow] at e2
          simp [both, nextTV, nextT, h, ← e2, zeroV]
        have E1 := Lib.hid e1
        clear e1
        go_wp2
        exact bodyPost_ret (v := .tuple #[V.val ⟨0, 0, ByteArray.empty⟩, .bool false]) (by simp [results, Try.results113, go_sem, V.val]; try rfl) rfl ⟨by rw [E1.out], (Gro.refl _).alloc _⟩
      · have hlt : m < s.size := hm
        obtain rfl : _ = Value.int .i64 (m : Int) := hi.trans (by rw [show ((m + 1 : Nat) : Int) - 1 = (m : Int) from by omega])
        clear hi hm
        go_wp2_with fail
        · have hle : m ≤ s.size := by omega
          have hx : (s[m].toNat : Int) < 255 := by assumption
          have hconv : ∀ O : Obj, (convert 22 9 (.slice (some ⟨w.heap.size + 1, 0, none⟩) 1 1)).run Try.prog (((w.alloc O).alloc (.cells #[.int .u8 (IntKind.u8.wrap ((s[m].toNat : Int) + 1))] 5)).drew) = .ok (.string ⟨#[s[m] + 1]⟩) (((w.alloc O).alloc (.cells #[.int .u8 (IntKind.u8.wrap ((s[m].toNat : Int) + 1))] 5)).drew) :=
            fun O => conv_one _ _ _ (by rw [wrap_u8 _ hx]; go_simp)
          clear hx
          go_region_with (go_at_call 114; refine (wide (text_calls _ _)).mono ?_; rintro e w' ⟨q, os, rfl, rfl⟩)
          have hx : (s[m].toNat : Int) < 255 := by assumption
          have hne : ¬ s.data.toList.getD m 0 = 255 := by rw [getD_at s m hlt]; intro h; rw [h] at hx; simp at hx
          have e1 : both (nextTV s) = .tuple #[V.val ⟨5, 0, s.extract 0 m ++ ⟨#[s[m] + 1]⟩⟩, .bool true] := by
            have e2 := HL.out
            simp only [lastLow] at e2
            rw [if_neg hne] at e2
            have hb : bump s m = s.extract 0 m ++ ⟨#[s[m] + 1]⟩ := by unfold bump; rw [getD_at s m hlt]
            simp [both, nextTV, nextT, h, ← e2, hb]
          have E1 := Lib.hid e1
          clear e1 hne hx
          go_wp2
          exact bodyPost_ret (v := .tuple #[V.val ⟨5, 0, s.extract 0 m ++ ⟨#[s[m] + 1]⟩⟩, .bool true]) (by simp [results, Try.results113, go_sem, V.val]; try rfl) rfl ⟨by rw [E1.out], (((Gro.refl _).alloc _).alloc _).grown _ _⟩
        · have hx : 255 ≤ (s[m].toNat : Int) := by assumption
          have heq : s.data.toList.getD m 0 = 255 := by
            rw [getD_at s m hlt]
            apply UInt8.toNat_inj.1
            have := s[m].toNat_lt
            simp
            omega
          refine ⟨⟨m, by omega, rfl, ?_⟩, by simp [intOf] <;> omega⟩
          have e2 := HL.out
          simp only [lastLow] at e2
          rw [if_pos heq] at e2
          exact e2
end Go.Proofs.Ytllakifmflploaa
