/- The contracts of codec's decoder: int, text. -/
import Derived.Test.YtllakifmflploaaCd
set_option linter.unusedSimpArgs false
set_option linter.unusedVariables false
namespace Go.Proofs.Ytllakifmflploaa
open Go.RowKit
open Go.Lib (byteCells uvarint zigzag)

theorem getElem_drop' {bs : List UInt8} {q i : Nat} (h : i < (bs.drop q).length) : (bs.drop q)[i] = bs[q + i]'(by simp at h; omega) := List.getElem_drop
def Laid (w : World) (a : Option Addr) (bs : List UInt8) : Prop := bs = [] ∨ ∃ g off, a = some ⟨g, off, none⟩ ∧ g < w.heap.size ∧ ∀ i (h : i < bs.length), w.cell? ⟨g, off + i, none⟩ = some (.int .u8 (bs[i].toNat : Int))
/-- 'b[q:]' -/
theorem slice_from (a : Option Addr) (cap : Nat) (bs : List UInt8) (q : Nat) (hq : q ≤ bs.length) (hc : bs.length ≤ cap) (hm : cap ≤ maxLen) (hn : a = none → cap = 0) :
    ∃ a', (∀ w : World, (Instr.slice 22 (.slice a bs.length cap) (some (.int .i64 (q : Int))) none none).run Try.prog w = .ok (.slice a' (bs.length - q) (cap - q)) w) ∧
      ∀ w : World, Laid w a bs → BytesAt w (.slice a' (bs.length - q) (cap - q)) (bs.drop q) := by
  have hqc : ¬ cap < q := by omega
  have h0 : ¬ ((q : Int) < 0) := by omega
  have hm' : cap ≤ 9223372036854775807 := hm
  by_cases he : q = cap
  · have hbq : bs.drop q = [] := List.drop_eq_nil_of_le (by omega)
    subst he
    refine ⟨a, fun w => ?_, fun w _ => ⟨a, 0, by rw [hbq]; simp; omega, by rw [hbq]; exact Nat.le_refl _, by simp, fun _ => rfl, .inl hbq⟩⟩
    have e1 : (bs.length : Int) = (q : Int) := by omega
    have e2 : bs.length = q := by omega
    cases a <;> simp [Instr.slice, run_underlying Try.underlying22, Instr.sliceBounds, Instr.sliceBound, asIntOf, go_sem, e2]
  · cases a with
    | none => exact absurd (hn rfl) (by omega)
    | some ad =>
      refine ⟨some (ad.add q), fun w => ?_, fun w hb => ⟨some (ad.add q), cap - q, by rw [List.length_drop], by rw [List.length_drop]; omega, Nat.le_trans (Nat.sub_le _ _) hm, by simp, ?_⟩⟩
      · simp [Instr.slice, run_underlying Try.underlying22, Instr.sliceBounds, Instr.sliceBound, asIntOf, go_sem]
        rw [if_pos hq, if_neg (by omega)]
      · rcases hb with rfl | ⟨g, off, hg, h1, h2⟩
        · simp
        · simp only [Option.some.injEq] at hg
          subst hg
          refine .inr ⟨g, off + q, by rw [addr_add], h1, fun i hi => ?_⟩
          rw [getElem_drop' hi, Nat.add_assoc]
          exact h2 (q + i) (by simp at hi; omega)
theorem BytesAt.to_ {w : World} {a : Option Addr} {cap m : Nat} {bs : List UInt8} (h : BytesAt w (.slice a m cap) bs) (n : Nat) (hn : n ≤ bs.length) : BytesAt w (.slice a n cap) (bs.take n) := by
  obtain ⟨a', cap', h1, h2, h3, h4, h5⟩ := h
  simp only [Value.slice.injEq] at h1
  obtain ⟨rfl, rfl, rfl⟩ := h1
  refine ⟨a, cap, by rw [List.length_take, Nat.min_eq_left hn], by rw [List.length_take]; omega, h3, h4, ?_⟩
  rcases h5 with rfl | ⟨g, off, k1, k2, k3⟩
  · simp
  · exact .inr ⟨g, off, k1, k2, fun i hi => by rw [List.getElem_take]; exact k3 i (by simp at hi; omega)⟩
/-- 'b[:n]' -/
theorem slice_to (a : Option Addr) (cap m n : Nat) (hn : n ≤ m) (hc : m ≤ cap) (hm : cap ≤ maxLen) (w : World) :
    (Instr.slice 22 (.slice a m cap) none (some (.int .u64 (n : Int))) none).run Try.prog w = .ok (.slice a n cap) w := by
  have h0 : n ≤ cap := by omega
  have hm' : cap ≤ 9223372036854775807 := hm
  cases a <;> simp [Instr.slice, run_underlying Try.underlying22, Instr.sliceBounds, Instr.sliceBound, asIntOf, go_sem, h0]
theorem Dec.bytes {w : World} {d : Nat} {a : Option Addr} {cap : Nat} {bs : List UInt8} {p : Nat} (h : Dec w d a cap bs p) : Laid w a bs :=
  h.byt.imp id fun ⟨g, off, h1, h2, _, h4⟩ => ⟨g, off, h1, h2, h4⟩
theorem bytes_drewN {w : World} {v : Value} {bs : List UInt8} (h : BytesAt w v bs) (n : Nat) : BytesAt (w.drewN n) v bs := h.later ⟨rfl, rfl, rfl, Nat.le_refl _, fun _ _ => rfl⟩
theorem below_drewN (w : World) (n : Nat) : Below w.heap.size w (w.drewN n) := ⟨rfl, rfl, rfl, Nat.le_refl _, fun _ _ => rfl⟩
theorem Dec.laid_set {w : World} {d : Nat} {a : Option Addr} {cap : Nat} {bs : List UInt8} {p : Nat} (h : Dec w d a cap bs p) (m : Nat) (z : Value) : Laid ((w.drewN m).setCell ⟨d, 1, none⟩ z) a bs :=
  h.byt.imp id fun ⟨g, off, h1, h2, h3, h4⟩ => ⟨g, off, h1, by simpa [World.setCell, World.drewN] using h2, fun i hi => by rw [World.cell?_setCell_other _ _ _ _ (by simp [h3])]; exact h4 i hi⟩
end Go.Proofs.Ytllakifmflploaa
