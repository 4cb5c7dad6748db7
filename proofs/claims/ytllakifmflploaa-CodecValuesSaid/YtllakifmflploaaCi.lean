/- The contracts of the reference's Int and Text, whatever the arguments. -/
import Derived.Test.YtllakifmflploaaCh
set_option linter.unusedSimpArgs false
set_option linter.unusedVariables false
namespace Go.Proofs.Ytllakifmflploaa
open Go.RowKit
open Go.Lib (byteCells uvarint zigzag)

/-- 'b[q:r]' -/
theorem slice_mid (a : Option Addr) (cap N q r : Nat) (hq : q ≤ r) (hr : r ≤ N) (hc : N ≤ cap) (hm : cap ≤ maxLen) (hn : a = none → cap = 0) :
    ∃ a', (∀ w : World, (Instr.slice 22 (.slice a N cap) (some (.int .i64 (q : Int))) (some (.int .i64 (r : Int))) none).run Try.prog w = .ok (.slice a' (r - q) (cap - q)) w) ∧
      ∀ (w : World) (bs : List UInt8), bs.length = N → Laid w a bs → BytesAt w (.slice a' (r - q) (cap - q)) ((bs.drop q).take (r - q)) := by
  have hqc : ¬ cap < q := by omega
  have hrc : r ≤ cap := by omega
  have hm' : cap ≤ 9223372036854775807 := hm
  by_cases he : q = cap
  · subst he
    obtain rfl : r = q := by omega
    refine ⟨a, fun w => ?_, fun w bs hb _ => ?_⟩
    · cases a <;> simp [Instr.slice, run_underlying Try.underlying22, Instr.sliceBounds, Instr.sliceBound, asIntOf, go_sem]
    · have hbq : (bs.drop r).take (r - r) = [] := by simp
      exact ⟨a, 0, by rw [hbq]; simp, by rw [hbq]; exact Nat.le_refl _, by simp, fun _ => rfl, .inl hbq⟩
  · cases a with
    | none => exact absurd (hn rfl) (by omega)
    | some ad =>
      refine ⟨some (ad.add q), fun w => ?_, fun w bs hb hl => ?_⟩
      · simp [Instr.slice, run_underlying Try.underlying22, Instr.sliceBounds, Instr.sliceBound, asIntOf, go_sem, hrc, hq]
        exact fun h => absurd h.symm he
      · subst hb
        refine ⟨some (ad.add q), cap - q, by rw [List.length_take, List.length_drop]; congr 1; omega, by rw [List.length_take, List.length_drop]; omega, Nat.le_trans (Nat.sub_le _ _) hm, by simp, ?_⟩
        rcases hl with rfl | ⟨g, off, hg, h1, h2⟩
        · simp
        · simp only [Option.some.injEq] at hg
          subst hg
          refine .inr ⟨g, off + q, by rw [addr_add], h1, fun i hi => ?_⟩
          rw [List.getElem_take, List.getElem_drop, Nat.add_assoc]
          exact h2 (q + i) (by simp at hi; omega)
/-- partsynclaw02.part -/
theorem part_calls (v : Value) (bs : List UInt8) (w : World) (h : BytesAt w v bs) : Calls Try.prog 20 #[v] w fun e w' => ∃ v', e = .returned v' ∧ BytesAt w v' (bs.take 200) ∧ w = w' := by
  obtain ⟨a, cap, rfl, hr, hm, hn, hl⟩ := bytes_value h
  have hat : BytesAt w (.slice a bs.length cap) bs := h
  have HAT := Lib.hid hat
  have hm' : cap ≤ 9223372036854775807 := hm
  cases a with
  | none =>
    obtain rfl : cap = 0 := hn rfl
    have hb : bs = [] := List.eq_nil_of_length_eq_zero (by omega)
    subst hb
    have HP : Hid (BytesAt w (.slice none 0 0) (([] : List UInt8).take 200)) := ⟨none, 0, rfl, Nat.le_refl _, by simp, fun _ => rfl, .inl rfl⟩
    clear hat h hl
    go_enter Try.func20, Try.ntmps20
    go_wp2
    all_goals
      go_ret
      exact ⟨_, rfl, HP.out, rfl⟩
  | some a =>
    by_cases h200 : bs.length ≤ 200
    · have HP : Hid (BytesAt w (.slice (some a) bs.length cap) (bs.take 200)) := by
        have e : bs.take 200 = bs := List.take_of_length_le h200
        show BytesAt _ _ _
        rw [e]; exact hat
      generalize bs.length = N at hr h200 HP
      have e0 : min (N : Int) 200 = (N : Int) := by omega
      have e1 : ¬ (200 : Int) < (N : Int) := by omega
      clear hat h hl
      go_enter Try.func20, Try.ntmps20
      go_wp2
      go_ret
      exact ⟨_, rfl, HP.out, rfl⟩
    · have HP : Hid (BytesAt w (.slice (some a) 200 cap) (bs.take 200)) := hat.to_ 200 (by omega)
      generalize bs.length = N at hr h200
      have e0 : min (N : Int) 200 = 200 := by omega
      have e1 : (200 : Int) < (N : Int) := by omega
      clear hat h hl
      go_enter Try.func20, Try.ntmps20
      go_wp2
      go_ret
      exact ⟨_, rfl, HP.out, rfl⟩
end Go.Proofs.Ytllakifmflploaa
