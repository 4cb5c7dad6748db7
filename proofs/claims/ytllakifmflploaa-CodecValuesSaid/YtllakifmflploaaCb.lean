/- The contracts of what writes numbers and texts: codec's and the reference's. -/
import Derived.Test.YtllakifmflploaaCa
set_option linter.unusedSimpArgs false
set_option linter.unusedVariables false
namespace Go.Proofs.Ytllakifmflploaa
open Go.RowKit
open Go.Lib (byteCells uvarint zigzag)

theorem snoc_byte (b : Nat) (h : b < 256) : byteCells [b.toUInt8] = [Value.int .u8 (b : Int)] := by
  simp [byteCells, Go.Lib.toUInt8_toNat h]
theorem one_new {w : World} {T : TypeId} {x : Value} : ∀ j u, [x][j]? = some u → (w.alloc (.cells #[x] T)).cell? ((⟨w.heap.size, 0, none⟩ : Addr).add j) = some u := by
  intro j u hj
  match j, hj with
  | 0, hj => simp at hj; subst hj; simp [Addr.add]

set_option maxHeartbeats 1000000 in
set_option maxRecDepth 100000 in
theorem appendUint_calls (base : Nat) (v : Value) (bs : List UInt8) (n : Nat) (hn : n < 18446744073709551616) (w : World) (hv : Wide base w v bs) (hb : base ≤ w.heap.size) (hl : bs.length + 10 ≤ 140737488355328) :
    Calls Try.prog 84 #[v, .int .u64 n] w (AppPost base (bs ++ uvarint n) w) := by
  have hu10 := Go.Lib.uvarint_length64 hn
  have HV := Lib.hid hv
  have HU := Lib.hid hu10
  clear hv hu10
  go_enter Try.func84, Try.ntmps84
  go_wp2
  go_loopw [0, 1] (fun vb vx wr => ∃ (y : Nat) (pre : List UInt8), vx = .int .u64 y ∧ y ≤ n ∧ uvarint n = pre ++ uvarint y ∧ Wide base wr vb (bs ++ pre) ∧ Below base w wr) (fun _ vx _ => (intOf vx).toNat)
  case atStart => exact ⟨n, [], rfl, Nat.le_refl _, rfl, by simpa using HV.out, Below.refl _ _⟩
  case round =>
    obtain ⟨y, pre, rfl, hy, hsplit, hown1, hnx⟩ := hrel
    have hpl : (bs ++ pre).length + 1 ≤ 140737488355328 := by
      have h2 := congrArg List.length hsplit
      have h3 := Go.Lib.uvarint_pos y
      have := HU.out
      rw [List.length_append] at h2
      rw [List.length_append]
      omega
    have HS := Lib.hid hsplit
    have HO := Lib.hid hown1
    have HX := Lib.hid hnx
    have hbz := Nat.le_trans hb hnx.size
    clear hsplit hown1 hnx
    by_cases h128 : 127 < y
    · obtain ⟨bt, hbt⟩ : ∃ bt : UInt8, bt = (y % 128 + 128).toUInt8 := ⟨_, rfl⟩
      have HBT := Lib.hid hbt
      have HBC : Hid (byteCells [bt] = [Value.int .u8 ((y : Int) % 128 + 128)]) := by show _ = _; rw [hbt, snoc_byte _ (by omega)]; congr 2
      clear hbt
      have hor : bits .or .u8 ((y : Int) % 256) 128 = (y : Int) % 128 + 128 := by
        rw [Lib.u8_or128_any _ (by omega) (by omega)]
        omega
      go_wp2_with (at_builtin; go_must (refine wpList_append_wide rfl _ _ rfl base _ (bs ++ pre) rfl (HO.out.alloc _) ⟨wr.heap.size, 0, none⟩ 1 1 [bt] rfl rfl ?c1 (by decide) hpl ?c2 ?_))
      case c1 => rw [HBC.out]; exact one_new
      case c2 => simp; omega
      intro v' w1 hown' hgrow
      have HO' := Lib.hid hown'
      have HX1 : Hid (Below base w w1) := (HX.out.alloc hbz _).trans hgrow
      clear hown' hgrow
      go_wp2
      go_roundw
      case rel => exact ⟨y / 128, pre ++ [bt], by go_num, by omega, by rw [HS.out, Go.Lib.uvarint_big (by omega), HBT.out, List.append_assoc]; rfl, .inl HO'.out, HX1.out⟩
      case measure => simp [intOf]; omega
    · obtain ⟨bt, hbt⟩ : ∃ bt : UInt8, bt = y.toUInt8 := ⟨_, rfl⟩
      have HBC : Hid (byteCells [bt] = [Value.int .u8 (y : Int)]) := by show _ = _; rw [hbt, snoc_byte _ (by omega)]
      have hsm : uvarint y = [bt] := by rw [hbt]; exact Go.Lib.uvarint_small (by omega)
      have HSM := Lib.hid hsm
      clear hbt
      have hy256 : (y : Int) % 256 = (y : Int) := by omega
      clear hsm
      go_wp2_with (at_builtin; go_must (refine wpList_append_wide rfl _ _ rfl base _ (bs ++ pre) rfl (HO.out.alloc _) ⟨wr.heap.size, 0, none⟩ 1 1 [bt] rfl rfl ?c1 (by decide) hpl ?c2 ?_))
      case c1 => rw [HBC.out]; exact one_new
      case c2 => simp; omega
      intro v' w1 hown' hgrow
      have HO' := Lib.hid hown'
      have HX1 : Hid (Below base w w1) := (HX.out.alloc hbz _).trans hgrow
      clear hown' hgrow
      go_wp2
      go_ret
      exact ⟨v', rfl, by rw [HS.out, HSM.out]; exact HO'.out, HX1.out⟩

set_option maxHeartbeats 1000000 in
set_option maxRecDepth 100000 in
theorem refUint_calls (base : Nat) (v : Value) (bs : List UInt8) (n : Nat) (hn : n < 18446744073709551616) (w : World) (hv : Wide base w v bs) (hb : base ≤ w.heap.size) (hl : bs.length + 10 ≤ 140737488355328) :
    Calls Try.prog 85 #[v, .int .u64 n] w (AppPost base (bs ++ uvarint n) w) := by
  have hu10 := Go.Lib.uvarint_length64 hn
  have HV := Lib.hid hv
  have HU := Lib.hid hu10
  clear hv hu10
  go_enter Try.func85, Try.ntmps85
  go_wp2
  go_loopw [0, 1] (fun vb vx wr => ∃ (y : Nat) (pre : List UInt8), vx = .int .u64 y ∧ y ≤ n ∧ uvarint n = pre ++ uvarint y ∧ Wide base wr vb (bs ++ pre) ∧ Below base w wr) (fun _ vx _ => (intOf vx).toNat)
  case atStart => exact ⟨n, [], rfl, Nat.le_refl _, rfl, by simpa using HV.out, Below.refl _ _⟩
  case round =>
    obtain ⟨y, pre, rfl, hy, hsplit, hown1, hnx⟩ := hrel
    have hpl : (bs ++ pre).length + 1 ≤ 140737488355328 := by
      have h2 := congrArg List.length hsplit
      have h3 := Go.Lib.uvarint_pos y
      have := HU.out
      rw [List.length_append] at h2
      rw [List.length_append]
      omega
    have HS := Lib.hid hsplit
    have HO := Lib.hid hown1
    have HX := Lib.hid hnx
    have hbz := Nat.le_trans hb hnx.size
    clear hsplit hown1 hnx
    by_cases h128 : 128 ≤ y
    · obtain ⟨bt, hbt⟩ : ∃ bt : UInt8, bt = (y % 128 + 128).toUInt8 := ⟨_, rfl⟩
      have HBT := Lib.hid hbt
      have HBC : Hid (byteCells [bt] = [Value.int .u8 ((y : Int) % 128 + 128)]) := by show _ = _; rw [hbt, snoc_byte _ (by omega)]; congr 2
      clear hbt
      have hand : bits .and .u64 (y : Int) 127 = (y : Int) % 128 := by rw [and_u64_127 y (by omega)]; omega
      have hor : bits .or .u64 ((y : Int) % 128) 128 = (y : Int) % 128 + 128 := by have h := or_u64_128 (y % 128) (by omega); push_cast at h; exact h
      have hmod : ((y : Int) % 128 + 128) % 256 = (y : Int) % 128 + 128 := by omega
      go_wp2_with (at_builtin; go_must (refine wpList_append_wide rfl _ _ rfl base _ (bs ++ pre) rfl (HO.out.alloc _) ⟨wr.heap.size, 0, none⟩ 1 1 [bt] rfl rfl ?c1 (by decide) hpl ?c2 ?_))
      case c1 => rw [HBC.out]; exact one_new
      case c2 => simp; omega
      intro v' w1 hown' hgrow
      have HO' := Lib.hid hown'
      have HX1 : Hid (Below base w w1) := (HX.out.alloc hbz _).trans hgrow
      clear hown' hgrow hand hor hmod
      go_wp2
      go_roundw
      case rel => exact ⟨y / 128, pre ++ [bt], by go_num, by omega, by rw [HS.out, Go.Lib.uvarint_big (by omega), HBT.out, List.append_assoc]; rfl, .inl HO'.out, HX1.out⟩
      case measure => simp [intOf]; omega
    · obtain ⟨bt, hbt⟩ : ∃ bt : UInt8, bt = y.toUInt8 := ⟨_, rfl⟩
      have HBC : Hid (byteCells [bt] = [Value.int .u8 (y : Int)]) := by show _ = _; rw [hbt, snoc_byte _ (by omega)]
      have hsm : uvarint y = [bt] := by rw [hbt]; exact Go.Lib.uvarint_small (by omega)
      have HSM := Lib.hid hsm
      clear hbt
      have hy256 : (y : Int) % 256 = (y : Int) := by omega
      clear hsm
      go_wp2_with (at_builtin; go_must (refine wpList_append_wide rfl _ _ rfl base _ (bs ++ pre) rfl (HO.out.alloc _) ⟨wr.heap.size, 0, none⟩ 1 1 [bt] rfl rfl ?c1 (by decide) hpl ?c2 ?_))
      case c1 => rw [HBC.out]; exact one_new
      case c2 => simp; omega
      intro v' w1 hown' hgrow
      have HO' := Lib.hid hown'
      have HX1 : Hid (Below base w w1) := (HX.out.alloc hbz _).trans hgrow
      clear hown' hgrow
      go_wp2
      go_ret
      exact ⟨v', rfl, by rw [HS.out, HSM.out]; exact HO'.out, HX1.out⟩

/-- slices.Clip -/
theorem clip_calls (v : Value) (bs : List UInt8) (w : World) (hv : BytesAt w v bs) : Calls Try.prog 80 #[v] w fun e w' => ∃ v', e = .returned v' ∧ (∃ a, v' = .slice a bs.length bs.length) ∧ BytesAt w v' bs ∧ w = w' := by
  obtain ⟨a, cap, rfl, h1, h2, h3, h4⟩ := hv
  have H4 := Lib.hid h4
  have H3 := Lib.hid h3
  generalize hN : bs.length = N at h1 ⊢
  have HN := Lib.hid hN
  clear h4 h3 hN
  cases a with
  | none =>
    obtain rfl : cap = 0 := H3.out rfl
    obtain rfl : N = 0 := by omega
    go_enter Try.func80, Try.ntmps80
    go_wp2
    go_ret
    exact ⟨.slice none 0 0, rfl, ⟨_, rfl⟩, ⟨none, 0, by rw [HN.out], by rw [HN.out]; exact Nat.le_refl _, by unfold maxLen; omega, fun _ => rfl, .inl (List.eq_nil_of_length_eq_zero HN.out)⟩, rfl⟩
  | some a =>
    go_enter Try.func80, Try.ntmps80
    go_wp2
    go_ret
    exact ⟨.slice (some a) N N, rfl, ⟨_, rfl⟩, ⟨some a, N, by rw [HN.out], by rw [HN.out]; exact Nat.le_refl _, Nat.le_trans h1 h2, by simp, H4.out⟩, rfl⟩
end Go.Proofs.Ytllakifmflploaa
