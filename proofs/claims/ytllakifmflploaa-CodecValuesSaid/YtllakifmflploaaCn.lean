/- partsynclaw02.begun returns true. -/
import Derived.Test.YtllakifmflploaaCi
import Derived.Test.YtllakifmflploaaCl
set_option linter.unusedSimpArgs false
set_option linter.unusedVariables false
namespace Go.Proofs.Ytllakifmflploaa
open Go.RowKit
open Go.Lib (byteCells uvarint zigzag)

theorem bytes_new (w : World) (l : List UInt8) (T : TypeId) (hl : l.length ≤ 1000) : BytesAt (w.alloc (.cells (byteCells l).toArray T)) (.slice (some ⟨w.heap.size, 0, none⟩) l.length l.length) l := by
  refine ⟨_, l.length, rfl, Nat.le_refl _, by unfold maxLen; omega, by simp, .inr ⟨w.heap.size, 0, rfl, by simp, fun i hi => ?_⟩⟩
  have hm := World.cell?_alloc_mark w (byteCells l).toArray T (0, 0) (0 + i)
  rw [hm]
  simp [byteCells, hi]
theorem bytes_nil (w : World) : BytesAt w (.slice none 0 0) [] := ⟨none, 0, rfl, Nat.le_refl _, by simp, fun _ => rfl, .inl rfl⟩
def rowBegun : List V := [⟨3, 1, ⟨#[]⟩⟩, ⟨5, 0, ⟨#[97]⟩⟩]
theorem row_begun (w : World) : RowAt (w.alloc (.cells #[.int .i64 3, .int .i64 1, .string ⟨#[]⟩, .int .i64 5, .int .i64 0, .string ⟨#[97]⟩] 35)) (.slice (some ⟨w.heap.size, 0, none⟩) 2 2) rowBegun := by
  refine ⟨_, 2, rfl, by simp [rowBegun], .inr ⟨w.heap.size, 0, rfl, by simp, fun i hi => ?_⟩⟩
  have hi2 : i < 2 := hi
  match i, hi2 with
  | 0, _ => exact ⟨by go_simp; rfl, by go_simp; rfl, by go_simp; rfl⟩
  | 1, _ => exact ⟨by go_simp; rfl, by go_simp; rfl, by go_simp; rfl⟩
theorem enc_begun : encR rowBegun = [2, 3, 1, 5, 1, 97] := by
  have u2 : uvarint 2 = [2] := by rw [Go.Lib.uvarint_small (by omega)]; rfl
  have u1 : uvarint 1 = [1] := by rw [Go.Lib.uvarint_small (by omega)]; rfl
  have e : encT ⟨#[97]⟩ = [1, 97] := by unfold encT; have : ByteArray.size ⟨#[97]⟩ = 1 := rfl; rw [this, u1]; rfl
  simp [encR, rowBegun, encVs, encV, u2, e]
theorem enc_300 : uvarint 300 = [172, 2] := by
  rw [Go.Lib.uvarint_big (by omega), Go.Lib.uvarint_small (by omega)]; rfl
theorem enc_m1 : uvarint (zigzag (-1)) = [1] := by
  have : zigzag (-1) = 1 := by decide
  rw [this, Go.Lib.uvarint_small (by omega)]; rfl
theorem rd_128 : triple mkU (readAt (rdU 0 0) 0 [128, 0] 0) = .tuple #[.int .u64 0, .int .i64 0, .int .i64 21] := by
  have : rdU 0 0 [128, 0] = .error 21 := by simp [rdU]
  simp [readAt, outOf, this, triple, mkU]

set_option maxHeartbeats 1000000 in
set_option maxRecDepth 100000 in
theorem begun2_calls (w : World) : Calls Try.prog 33 #[] w fun e w' => e = .returned (.bool true) ∧ Below w.heap.size w w' := by
  have HR := Lib.hid (AppendRow_calls (.slice none 0 0) _ [] rowBegun _ (bytes_nil _) (by simp) (row_begun w) (by intro x hx; simp [rowBegun] at hx; rcases hx with rfl | rfl <;> exact ⟨by decide, by decide⟩))
  go_enter Try.func33, Try.ntmps33
  go_wp2_with fail
  refine HR.out.mono ?_
  intro e w1 ho
  unfold RowOut at ho
  rw [if_neg (by simp [rowBegun]), if_pos (by decide +kernel)] at ho
  obtain ⟨v1, rfl, ho1, hb1⟩ := ho
  rw [List.nil_append, enc_begun] at ho1
  have hbw1 : Below w.heap.size w w1 := ((Below.refl _ _).alloc (Nat.le_refl _) _).trans (hb1.mono (by simp))
  have HO1 := Lib.hid ho1.at_
  have HB1 := Lib.hid hbw1
  have hb128 : BytesAt (w1.alloc (.cells #[.int .u8 128, .int .u8 0] 5)) (.slice (some ⟨w1.heap.size, 0, none⟩) 2 2) [128, 0] := bytes_new w1 [128, 0] _ (by simp)
  have hu := Uint_calls _ [128, 0] 0 _ hb128 (by simp)
  rw [rd_128] at hu
  have HU := Lib.hid hu
  clear ho1 hb1 hbw1 hb128 hu HR
  go_wp2_with fail
  refine HU.out.mono ?_
  rintro e w2 ⟨rfl, hb2⟩
  have hb12 : Below w1.heap.size w1 w2 := ((Below.refl _ _).alloc (Nat.le_refl _) _).trans (hb2.mono (by simp))
  have HO2 := Lib.hid (HO1.out.later hb12)
  have HB2 := Lib.hid (HB1.out.trans (hb12.mono HB1.out.size))
  have hlit : BytesAt (w2.alloc (.cells #[.int .u8 2, .int .u8 3, .int .u8 1, .int .u8 5, .int .u8 1, .int .u8 97] 5)) (.slice (some ⟨w2.heap.size, 0, none⟩) 6 6) [2, 3, 1, 5, 1, 97] := bytes_new w2 [2, 3, 1, 5, 1, 97] _ (by simp)
  have hs := same_bytes v1 _ _ _ _ (HO2.out.later ((Below.refl _ _).alloc (Nat.le_refl _) _)) hlit
  rw [decide_eq_true rfl] at hs
  have HS := Lib.hid hs
  clear hb2 hb12 hlit hs HU
  go_wp2_with fail
  refine HS.out.mono ?_
  rintro e w3 ⟨rfl, rfl⟩
  have ha := AppendUint_calls (.slice none 0 0) [] 300 (by omega) (w2.alloc (.cells #[.int .u8 2, .int .u8 3, .int .u8 1, .int .u8 5, .int .u8 1, .int .u8 97] 5)) (bytes_nil _) (by simp)
  rw [List.nil_append, enc_300] at ha
  have HA := Lib.hid ha
  clear ha HS
  go_wp2_with fail
  refine HA.out.mono ?_
  rintro e w3 ⟨v3, rfl, ho3, hb3⟩
  have HB3 : Hid (Below w.heap.size w w3) := (HB2.out.alloc HB2.out.size _).trans (hb3.mono (by have := HB2.out.size; simp; omega))
  have hlit : BytesAt (w3.alloc (.cells #[.int .u8 172, .int .u8 2] 5)) (.slice (some ⟨w3.heap.size, 0, none⟩) 2 2) [172, 2] := bytes_new w3 [172, 2] _ (by simp)
  have hs := same_bytes v3 _ _ _ _ (ho3.at_.later ((Below.refl _ _).alloc (Nat.le_refl _) _)) hlit
  rw [decide_eq_true rfl] at hs
  have HS := Lib.hid hs
  clear ho3 hb3 hlit hs HA
  go_wp2_with fail
  refine HS.out.mono ?_
  rintro e w4 ⟨rfl, rfl⟩
  have ha := AppendInt_calls (.slice none 0 0) [] (-1) ⟨by decide, by decide⟩ (w3.alloc (.cells #[.int .u8 172, .int .u8 2] 5)) (bytes_nil _) (by simp)
  rw [List.nil_append, enc_m1] at ha
  have HA := Lib.hid ha
  clear ha HS
  go_wp2_with fail
  refine HA.out.mono ?_
  rintro e w4 ⟨v4, rfl, ho4, hb4⟩
  have HB4 : Hid (Below w.heap.size w w4) := (HB3.out.alloc HB3.out.size _).trans (hb4.mono (by have := HB3.out.size; simp; omega))
  have hlit : BytesAt (w4.alloc (.cells #[.int .u8 1] 5)) (.slice (some ⟨w4.heap.size, 0, none⟩) 1 1) [1] := bytes_new w4 [1] _ (by simp)
  have hs := same_bytes v4 _ _ _ _ (ho4.at_.later ((Below.refl _ _).alloc (Nat.le_refl _) _)) hlit
  rw [decide_eq_true rfl] at hs
  have HS := Lib.hid hs
  clear ho4 hb4 hlit hs HA
  go_wp2_with fail
  refine HS.out.mono ?_
  rintro e w5 ⟨rfl, rfl⟩
  go_wp2
  go_ret
  exact ⟨rfl, HB4.out.alloc HB4.out.size _⟩
end Go.Proofs.Ytllakifmflploaa
