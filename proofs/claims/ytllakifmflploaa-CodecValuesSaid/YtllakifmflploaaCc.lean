/- The contracts of what writes signed numbers and texts, and of the exported functions that write numbers and texts. -/
import Derived.Test.YtllakifmflploaaCb
set_option linter.unusedSimpArgs false
set_option linter.unusedVariables false
namespace Go.Proofs.Ytllakifmflploaa
open Go.RowKit
open Go.Lib (byteCells uvarint zigzag)

theorem wrap64_eq (y : Int) : wrap64 y = IntKind.i64.wrap y := by rw [IntKind.wrap_i64]; unfold wrap64; omega
theorem zig_code' (x : Int) (h0 : -9223372036854775808 ≤ x) (h1 : x ≤ 9223372036854775807) : IntKind.u64.wrap (bits .xor .i64 (wrap64 (x * 2)) (x / 9223372036854775808)) = (zigzag x : Int) := by rw [wrap64_eq]; exact zig_code x h0 h1
def isI64 (x : Int) : Prop := -9223372036854775808 ≤ x ∧ x ≤ 9223372036854775807
theorem app_mono {base : Nat} {out : List UInt8} {w w1 w' : World} {e : Ending} (h : AppPost base out w1 e w') (hb : Below base w w1) : AppPost base out w e w' :=
  let ⟨v, h1, h2, h3⟩ := h; ⟨v, h1, h2, hb.trans h3⟩
set_option maxRecDepth 100000 in
theorem appendInt_calls (base : Nat) (v : Value) (bs : List UInt8) (x : Int) (hx : isI64 x) (w : World) (hv : Wide base w v bs) (hb : base ≤ w.heap.size) (hl : bs.length + 10 ≤ 140737488355328) :
    Calls Try.prog 117 #[v, .int .i64 x] w (AppPost base (bs ++ uvarint (zigzag x)) w) := by
  obtain ⟨x0, x1⟩ := hx
  have hz := zig_code' x x0 x1
  have hc := appendUint_calls base v bs (zigzag x) (Go.Lib.zigzag_lt x0 x1) w hv hb hl
  rw [← hz] at hc
  have HC := Lib.hid hc
  clear hc hz hv
  go_enter Try.func117, Try.ntmps117
  go_wp2_with fail
  refine HC.out.mono ?_
  rintro e w' ⟨v', rfl, ho, hb'⟩
  go_wp2
  go_ret
  exact ⟨v', rfl, ho, hb'⟩
set_option maxRecDepth 100000 in
theorem appendText_calls (base : Nat) (v : Value) (bs : List UInt8) (t : ByteArray) (w : World) (hv : Wide base w v bs) (hb : base ≤ w.heap.size) (hl : bs.length + 10 + t.size ≤ 140737488355328) :
    Calls Try.prog 118 #[v, .string t] w (AppPost base (bs ++ encT t) w) := by
  have hc := appendUint_calls base v bs t.size (by omega) w hv hb (by omega)
  have hu := Go.Lib.uvarint_length64 (x := t.size) (by omega)
  have HC := Lib.hid hc
  have HU := Lib.hid hu
  clear hc hv hu
  go_enter Try.func118, Try.ntmps118
  go_wp2_with fail
  refine HC.out.mono ?_
  rintro e w1 ⟨v1, rfl, ho, hb1⟩
  have HO := Lib.hid ho
  have HB := Lib.hid hb1
  clear ho hb1
  have hlim : (bs ++ uvarint t.size).length + t.size ≤ 140737488355328 := by rw [List.length_append]; have := HU.out; omega
  go_wp2_with (at_builtin; go_must (refine wpList_append_text' rfl _ _ rfl base _ (bs ++ uvarint t.size) rfl HO.out t rfl hlim ?c1 ?_))
  case c1 => exact Nat.le_trans hb HB.out.size
  intro v' w2 ho2 hb2
  have HO2 := Lib.hid ho2
  have HB2 := Lib.hid hb2
  clear ho2 hb2
  go_wp2
  go_ret
  exact ⟨v', rfl, by unfold encT; rw [← List.append_assoc]; have := HO2.out; simpa using this, HB.out.trans HB2.out⟩

/-! ### the exported functions -/
theorem wide_full {w : World} {v : Value} {bs : List UInt8} (base : Nat) (h : BytesAt w v bs) (ha : ∃ a, v = .slice a bs.length bs.length) : Wide base w v bs := .inr ⟨h, ha⟩
set_option maxRecDepth 100000 in
theorem AppendUint_calls (v : Value) (bs : List UInt8) (n : Nat) (hn : n < 18446744073709551616) (w : World) (hv : BytesAt w v bs) (hl : bs.length + 10 ≤ 140737488355328) :
    Calls Try.prog 87 #[v, .int .u64 n] w (AppPost w.heap.size (bs ++ uvarint n) w) := by
  have HC := Lib.hid (clip_calls v bs w hv)
  clear hv
  go_enter Try.func87, Try.ntmps87
  go_wp2_with fail
  refine HC.out.mono ?_
  rintro e w1 ⟨v1, rfl, hf, hat, rfl⟩
  have HD := Lib.hid (appendUint_calls w.heap.size v1 bs n hn w (wide_full _ hat hf) (Nat.le_refl _) hl)
  clear hf hat HC
  go_wp2_with fail
  refine HD.out.mono ?_
  rintro e w1 ⟨v', rfl, ho, hb'⟩
  go_wp2
  go_ret
  exact ⟨v', rfl, ho, hb'⟩
set_option maxRecDepth 100000 in
theorem AppendInt_calls (v : Value) (bs : List UInt8) (x : Int) (hx : isI64 x) (w : World) (hv : BytesAt w v bs) (hl : bs.length + 10 ≤ 140737488355328) :
    Calls Try.prog 88 #[v, .int .i64 x] w (AppPost w.heap.size (bs ++ uvarint (zigzag x)) w) := by
  have HC := Lib.hid (clip_calls v bs w hv)
  have HX := Lib.hid hx
  clear hv hx
  go_enter Try.func88, Try.ntmps88
  go_wp2_with fail
  refine HC.out.mono ?_
  rintro e w1 ⟨v1, rfl, hf, hat, rfl⟩
  have HD := Lib.hid (appendInt_calls w.heap.size v1 bs x HX.out w (wide_full _ hat hf) (Nat.le_refl _) hl)
  clear hf hat HC
  go_wp2_with fail
  refine HD.out.mono ?_
  rintro e w1 ⟨v', rfl, ho, hb'⟩
  go_wp2
  go_ret
  exact ⟨v', rfl, ho, hb'⟩
/-! ### the reference -/
set_option maxRecDepth 100000 in
theorem fresh_calls (v : Value) (bs : List UInt8) (w : World) (hv : BytesAt w v bs) (hl : bs.length ≤ 140737488355328) :
    Calls Try.prog 83 #[v] w (AppPost w.heap.size bs w) := by
  have HV := Lib.hid hv
  have hn := Own.nil w.heap.size w
  have HN := Lib.hid hn
  have hlim : ([] : List UInt8).length + bs.length ≤ 140737488355328 := by simpa using hl
  clear hv hn
  go_enter Try.func83, Try.ntmps83
  go_wp2_with (at_builtin; go_must (refine wpList_append_bytes rfl _ _ rfl w.heap.size _ [] rfl HN.out v bs rfl HV.out hlim ?c1 ?_))
  case c1 => exact Nat.le_refl _
  intro v' w2 ho2 hb2
  have HO2 := Lib.hid ho2
  have HB2 := Lib.hid hb2
  clear ho2 hb2
  go_wp2
  go_ret
  exact ⟨v', rfl, by have := HO2.out; simpa using this, HB2.out⟩
/-- partsynclaw02.same -/
theorem same_bytes (va vb : Value) (l1 l2 : List UInt8) (w : World) (ha : BytesAt w va l1) (hb : BytesAt w vb l2) : Calls Try.prog 24 #[va, vb] w fun e w' => e = .returned (.bool (decide (l1 = l2))) ∧ w = w' := by
  have h1 := convert_bytes ha
  have h2 := convert_bytes hb
  have h3 : (l1 == l2) = decide (l1 = l2) := by rw [Bool.eq_iff_iff]; simp
  generalize decide (l1 = l2) = d at h3 ⊢
  clear ha hb
  go_enter Try.func24, Try.ntmps24
  go_wp2
  go_ret
  trace_state
  exact ⟨by simp [h3], rfl⟩
end Go.Proofs.Ytllakifmflploaa
