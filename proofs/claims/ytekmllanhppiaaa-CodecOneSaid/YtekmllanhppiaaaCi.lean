/- The contracts of the reference's Int and Text, whatever the arguments. -/
import Derived.Test.YtekmllanhppiaaaCh
set_option linter.unusedSimpArgs false
set_option linter.unusedVariables false
namespace Go.Proofs.Ytekmllanhppiaaa
open Go.RowKit
open Go.Lib (byteCells uvarint zigzag)

theorem refUint_calls' (v : Value) (bs : List UInt8) (p : Int) (w : World) (h : BytesAt w v bs) (hf : bs.length ≤ 1099511627776) :
    Calls Try.prog 41 #[v, .int .i64 p] w (SamePost (triple mkU (readAt (rdU 0 0) 0 bs p)) w) := by
  obtain ⟨a, cap, rfl, hr, hm, hn, hl⟩ := bytes_value h
  by_cases hp : p < 0 ∨ (bs.length : Int) < p
  · rw [readAt_out hp]; exact refUint_bad a cap bs.length p w hp
  · obtain ⟨q, rfl⟩ : ∃ q : Nat, p = q := ⟨p.toNat, by omega⟩
    have hq : q ≤ bs.length := by omega
    rw [readAt_in hq]
    exact refUint_in a cap bs q w hl hq hf
set_option maxRecDepth 100000 in
theorem refInt_err (v : Value) (p c : Int) (hc : (c == 0) = false) (w : World) (h : Calls Try.prog 41 #[v, .int .i64 p] w (SamePost (.tuple #[.int .u64 0, .int .i64 0, .int .i64 c]) w)) :
    Calls Try.prog 43 #[v, .int .i64 p] w (SamePost (.tuple #[.int .i64 0, .int .i64 0, .int .i64 c]) w) := by
  have H := Lib.hid h
  have hc2 : (c != 0) = true := by simp at hc ⊢; exact hc
  clear h
  go_enter Try.func43, Try.ntmps43
  go_wp2_with fail
  refine H.out.mono ?_
  rintro e w1 ⟨rfl, rfl⟩
  go_wp2
  go_ret3
  exact same_post rfl
set_option maxRecDepth 100000 in
theorem refInt_ok (v : Value) (p q : Int) (n : Nat) (hn : n < 18446744073709551616) (w : World) (h : Calls Try.prog 41 #[v, .int .i64 p] w (SamePost (.tuple #[.int .u64 n, .int .i64 q, .int .i64 0]) w)) :
    Calls Try.prog 43 #[v, .int .i64 p] w (SamePost (.tuple #[.int .i64 (unzig n), .int .i64 q, .int .i64 0]) w) := by
  have H := Lib.hid h
  have a1 := and_u64_one n hn
  have a3 : wrap64 ((n : Int) / 2) = (n : Int) / 2 := by unfold wrap64; omega
  clear h
  by_cases h2 : n % 2 = 0
  · have a2 : unzig n = (n : Int) / 2 := by unfold unzig; rw [if_pos h2]
    have a4 : (n : Int) % 2 = 0 := by omega
    rw [a2]
    clear a2 h2
    go_enter Try.func43, Try.ntmps43
    go_wp2_with fail
    refine H.out.mono ?_
    rintro e w1 ⟨rfl, rfl⟩
    go_wp2
    go_ret3
    exact same_post rfl
  · have a2 : unzig n = -1 - (n : Int) / 2 := by unfold unzig; rw [if_neg h2]
    have a4 : (n : Int) % 2 = 1 := by omega
    have a5 : bits .xor .i64 (-1) ((n : Int) / 2) = -1 - (n : Int) / 2 := by rw [xor_ones_i64, IntKind.wrap_i64]; omega
    have HU := Lib.hid a2
    generalize unzig n = u at HU ⊢
    clear a2 h2
    go_enter Try.func43, Try.ntmps43
    go_wp2_with fail
    refine H.out.mono ?_
    rintro e w1 ⟨rfl, rfl⟩
    go_wp2
    go_ret3
    exact same_post (by rw [HU.out]; simp)
theorem refInt_calls (v : Value) (bs : List UInt8) (p : Int) (w : World) (h : BytesAt w v bs) (hf : bs.length ≤ 1099511627776) :
    Calls Try.prog 43 #[v, .int .i64 p] w (SamePost (triple mkI (readAt rdI 0 bs p)) w) := by
  have hu := refUint_calls' v bs p w h hf
  by_cases hp : p < 0 ∨ (bs.length : Int) < p
  · rw [readAt_out hp] at hu ⊢; exact refInt_err v p 1 (by decide) w hu
  · obtain ⟨q, rfl⟩ : ∃ q : Nat, p = q := ⟨p.toNat, by omega⟩
    have hq : q ≤ bs.length := by omega
    rw [readAt_in hq] at hu ⊢
    rcases hc : rdU 0 0 (bs.drop q) with c | ⟨x, k⟩
    · rw [hc] at hu; rw [rdI_err hc]
      exact refInt_err v q c (by rcases rdU_err _ _ _ _ hc with rfl | rfl <;> decide) w hu
    · rw [hc] at hu; rw [rdI_ok hc]
      exact refInt_ok v q _ x (rdU_bounds _ _ _ (by simp) (by omega) _ _ hc).1 w hu

/-- 'b[q:r]' -/
theorem slice_mid (a : Option Addr) (cap N q r : Nat) (hq : q ≤ r) (hr : r ≤ N) (hc : N ≤ cap) (hm : cap ≤ maxLen) (hn : a = none → cap = 0) :
    ∃ a', (∀ w : World, (Instr.slice 22 (.slice a N cap) (some (.int .i64 (q : Int))) (some (.int .i64 (r : Int))) none).run Try.prog w = .ok (.slice a' (r - q) (cap - q)) w) ∧
      ∀ (w : World) (bs : List UInt8), bs.length = N → Laid w a bs → BytesAt w (.slice a' (r - q) (cap - q)) ((bs.drop q).take (r - q)) := by
  have hqc : ¬ cap < q := by omega
  have hrc : r ≤ cap := by omega
  have hm' : cap ≤ 9223372036854775807 := hm
  by_cases he : q = cap
  · subst he
    obtain rfl : r = q := by omega
    refine ⟨a, fun w => ?_, fun w bs hb _ => ?_⟩
    · cases a <;> simp [Instr.slice, run_underlying Try.underlying22, Instr.sliceBounds, Instr.sliceBound, asIntOf, go_sem]
    · have hbq : (bs.drop r).take (r - r) = [] := by simp
      exact ⟨a, 0, by rw [hbq]; simp, by rw [hbq]; exact Nat.le_refl _, by simp, fun _ => rfl, .inl hbq⟩
  · cases a with
    | none => exact absurd (hn rfl) (by omega)
    | some ad =>
      refine ⟨some (ad.add q), fun w => ?_, fun w bs hb hl => ?_⟩
      · simp [Instr.slice, run_underlying Try.underlying22, Instr.sliceBounds, Instr.sliceBound, asIntOf, go_sem, hrc, hq]
        exact fun h => absurd h.symm he
      · subst hb
        refine ⟨some (ad.add q), cap - q, by rw [List.length_take, List.length_drop]; congr 1; omega, by rw [List.length_take, List.length_drop]; omega, Nat.le_trans (Nat.sub_le _ _) hm, by simp, ?_⟩
        rcases hl with rfl | ⟨g, off, hg, h1, h2⟩
        · simp
        · simp only [Option.some.injEq] at hg
          subst hg
          refine .inr ⟨g, off + q, by rw [addr_add], h1, fun i hi => ?_⟩
          rw [List.getElem_take, List.getElem_drop, Nat.add_assoc]
          exact h2 (q + i) (by simp at hi; omega)
set_option maxHeartbeats 1000000 in
set_option maxRecDepth 100000 in
theorem refText_bad (a : Option Addr) (cap N : Nat) (p most : Int) (w : World) (h : (p < 0 ∨ (N : Int) < p) ∨ most < 0) : Calls Try.prog 45 #[.slice a N cap, .int .i64 p, .int .i64 most] w (SamePost (.tuple #[.string ⟨#[]⟩, .int .i64 0, .int .i64 1]) w) := by
  by_cases h0 : p < 0
  · go_enter Try.func45, Try.ntmps45
    go_wp2
    go_ret3
    exact same_post rfl
  · by_cases h1 : (N : Int) < p
    · go_enter Try.func45, Try.ntmps45
      go_wp2
      go_ret3
      exact same_post rfl
    · have h2 : most < 0 := by omega
      go_enter Try.func45, Try.ntmps45
      go_wp2
      go_ret3
      exact same_post rfl
set_option maxHeartbeats 1000000 in
set_option maxRecDepth 100000 in
theorem refText_err (a : Option Addr) (cap N p most : Nat) (hp : p ≤ N) (c : Int) (hc : (c == 0) = false) (w : World) (h : Calls Try.prog 41 #[.slice a N cap, .int .i64 p] w (SamePost (.tuple #[.int .u64 0, .int .i64 0, .int .i64 c]) w)) :
    Calls Try.prog 45 #[.slice a N cap, .int .i64 (p : Int), .int .i64 (most : Int)] w (SamePost (.tuple #[.string ⟨#[]⟩, .int .i64 0, .int .i64 c]) w) := by
  have H := Lib.hid h
  have hc2 : (c != 0) = true := by simp at hc ⊢; exact hc
  have d1 : ¬ ((p : Int) < 0) := by omega
  have d2 : decide ((N : Int) < (p : Int)) = false := by simp; omega
  have d2' : decide (N < p) = false := by simp; omega
  have d3 : ¬ ((most : Int) < 0) := by omega
  clear h
  go_enter Try.func45, Try.ntmps45
  go_wp2_with fail
  refine H.out.mono ?_
  rintro e w1 ⟨rfl, rfl⟩
  go_wp2
  go_ret3
  exact same_post rfl
set_option maxHeartbeats 1000000 in
set_option maxRecDepth 100000 in
theorem refText_ok (a : Option Addr) (cap : Nat) (bs : List UInt8) (p most q n : Nat) (hp : p ≤ bs.length) (hq : q ≤ bs.length) (hmost : most ≤ 9223372036854775807) (hn : n < 18446744073709551616) (w : World) (hl : Laid w a bs) (hf : bs.length ≤ 1099511627776) (hr : bs.length ≤ cap) (hm : cap ≤ maxLen) (hnil : a = none → cap = 0)
    (h : Calls Try.prog 41 #[.slice a bs.length cap, .int .i64 p] w (SamePost (.tuple #[.int .u64 n, .int .i64 q, .int .i64 0]) w)) :
    Calls Try.prog 45 #[.slice a bs.length cap, .int .i64 (p : Int), .int .i64 (most : Int)] w (SamePost (if most < n then .tuple #[.string ⟨#[]⟩, .int .i64 0, .int .i64 2] else if bs.length - q < n then .tuple #[.string ⟨#[]⟩, .int .i64 0, .int .i64 20] else .tuple #[.string ⟨((bs.drop q).take n).toArray⟩, .int .i64 ((q + n : Nat) : Int), .int .i64 0]) w) := by
  have H := Lib.hid h
  have HL := Lib.hid hl
  obtain ⟨N, hN⟩ : ∃ N, N = bs.length := ⟨_, rfl⟩
  have HH : Hid (Calls Try.prog 41 #[.slice a N cap, .int .i64 p] w (SamePost (.tuple #[.int .u64 n, .int .i64 q, .int .i64 0]) w)) := by rw [hN]; exact h
  rw [← hN] at hp hq hf hr ⊢
  have HN := Lib.hid hN
  have d1 : ¬ ((p : Int) < 0) := by omega
  have d2 : decide ((N : Int) < (p : Int)) = false := by simp; omega
  have d2' : decide (N < p) = false := by simp; omega
  have d3 : ¬ ((most : Int) < 0) := by omega
  have w1 : IntKind.u64.wrap (most : Int) = (most : Int) := by rw [IntKind.wrap_u64]; omega
  clear h hl hN H
  by_cases h2 : most < n
  · have d4 : decide ((most : Int) < (n : Int)) = true := by simp; omega
    rw [if_pos h2]
    go_enter Try.func45, Try.ntmps45
    go_wp2_with fail
    refine HH.out.mono ?_
    rintro e w1 ⟨rfl, rfl⟩
    go_wp2
    go_ret3
    exact same_post rfl
  · have d4 : decide ((most : Int) < (n : Int)) = false := by simp; omega
    have d4' : decide (most < n) = false := by simp; omega
    rw [if_neg h2]
    have w2 : wrap64 ((N : Int) - (q : Int)) = ((N - q : Nat) : Int) := by clear hn w1 hmost d4 d4' h2; unfold wrap64; omega
    have w2' : (N : Int) - (q : Int) = ((N - q : Nat) : Int) := by clear hn w1 hmost d4 d4' h2 w2; omega
    have w3 : IntKind.u64.wrap ((N - q : Nat) : Int) = ((N - q : Nat) : Int) := by clear hn w1 hmost d4 d4' h2 w2 w2'; rw [IntKind.wrap_u64]; omega
    obtain ⟨M, hM⟩ : ∃ M, M = N - q := ⟨_, rfl⟩
    rw [← hM] at w2 w2' w3 ⊢
    have HM := Lib.hid hM
    by_cases h3 : M < n
    · have d5 : decide ((M : Int) < (n : Int)) = true := by simp; omega
      rw [if_pos h3]
      clear hM
      go_enter Try.func45, Try.ntmps45
      go_wp2_with fail
      refine HH.out.mono ?_
      rintro e w1 ⟨rfl, rfl⟩
      go_wp2
      go_ret3
      exact same_post rfl
    · have d5 : decide ((M : Int) < (n : Int)) = false := by simp; omega
      have d5' : decide (M < n) = false := by simp; omega
      rw [if_neg h3]
      have hle : q + n ≤ N := by
        have h4 : n ≤ N - q := by rw [← hM]; exact Nat.not_lt.1 h3
        exact (Nat.le_sub_iff_add_le' hq).1 h4
      have hn40 : n ≤ 1099511627776 := Nat.le_trans (Nat.le_trans (Nat.le_add_left _ _) hle) hf
      obtain ⟨a', hs1, hs2⟩ := slice_mid a cap N q (q + n) (Nat.le_add_right _ _) hle hr hm hnil
      rw [Nat.add_sub_cancel_left] at hs1 hs2
      have hcv := convert_bytes (hs2 w bs HN.out.symm HL.out)
      have hs1' := hs1
      push_cast at hs1'
      clear hM hs2 hs1 hn hmost h2 h3 w2' hn40
      go_enter Try.func45, Try.ntmps45
      go_wp2_with fail
      refine HH.out.mono ?_
      rintro e w1 ⟨rfl, rfl⟩
      go_wp2
      go_ret3
      exact same_post (by push_cast; rfl)
theorem refText_calls (v : Value) (bs : List UInt8) (p most : Int) (hmost : most ≤ 9223372036854775807) (w : World) (h : BytesAt w v bs) (hf : bs.length ≤ 1099511627776) :
    Calls Try.prog 45 #[v, .int .i64 p, .int .i64 most] w (SamePost (triple mkT (textAt most bs p)) w) := by
  have hu := refUint_calls' v bs p w h hf
  obtain ⟨a, cap, rfl, hr, hm, hn, hl⟩ := bytes_value h
  by_cases hb : (p < 0 ∨ (bs.length : Int) < p) ∨ most < 0
  · have e : textAt most bs p = (⟨#[]⟩, 0, 1) := by
      unfold textAt
      split
      · rfl
      · exact readAt_out (by omega)
    rw [e]; exact refText_bad a cap bs.length p most w hb
  · obtain ⟨q, rfl⟩ : ∃ q : Nat, p = q := ⟨p.toNat, by omega⟩
    obtain ⟨m, rfl⟩ : ∃ m : Nat, most = m := ⟨most.toNat, by omega⟩
    have hq : q ≤ bs.length := by omega
    unfold textAt
    rw [if_neg (by omega), readAt_in hq, Int.toNat_natCast]
    rw [readAt_in hq] at hu
    rcases hc : rdU 0 0 (bs.drop q) with c | ⟨x, k⟩
    · rw [hc] at hu
      have e : rdT m (bs.drop q) = .error c := by unfold rdT; rw [hc]
      rw [e]
      exact refText_err a cap bs.length q m hq c (by rcases rdU_err _ _ _ _ hc with rfl | rfl <;> decide) w hu
    · rw [hc] at hu
      obtain ⟨hx, -, hk, -⟩ := rdU_bounds _ _ _ (by simp) (by omega) _ _ hc
      have hk' : q + k ≤ bs.length := by simp at hk; omega
      have := refText_ok a cap bs q m (q + k) x hq hk' (by omega) hx w hl hf hr hm hn hu
      have e : rdT m (bs.drop q) = if m < x then .error 2 else if bs.length - (q + k) < x then .error 20 else .ok (⟨((bs.drop (q + k)).take x).toArray⟩, k + x) := by
        unfold rdT
        rw [hc]
        simp only [List.drop_drop, List.length_drop]
      rw [e]
      by_cases h1 : m < x
      · rw [if_pos h1] at this ⊢; exact this
      · rw [if_neg h1] at this ⊢
        by_cases h2 : bs.length - (q + k) < x
        · rw [if_pos h2] at this ⊢; exact this
        · rw [if_neg h2] at this ⊢
          have e3 : q + k + x = q + (k + x) := Nat.add_assoc _ _ _
          rw [e3] at this
          exact this
/-- partsynclaw02.part -/
theorem part_calls (v : Value) (bs : List UInt8) (w : World) (h : BytesAt w v bs) : Calls Try.prog 20 #[v] w fun e w' => ∃ v', e = .returned v' ∧ BytesAt w v' (bs.take 200) ∧ w = w' := by
  obtain ⟨a, cap, rfl, hr, hm, hn, hl⟩ := bytes_value h
  have hat : BytesAt w (.slice a bs.length cap) bs := h
  have HAT := Lib.hid hat
  have hm' : cap ≤ 9223372036854775807 := hm
  cases a with
  | none =>
    obtain rfl : cap = 0 := hn rfl
    have hb : bs = [] := List.eq_nil_of_length_eq_zero (by omega)
    subst hb
    have HP : Hid (BytesAt w (.slice none 0 0) (([] : List UInt8).take 200)) := ⟨none, 0, rfl, Nat.le_refl _, by simp, fun _ => rfl, .inl rfl⟩
    clear hat h hl
    go_enter Try.func20, Try.ntmps20
    go_wp2
    all_goals
      go_ret
      exact ⟨_, rfl, HP.out, rfl⟩
  | some a =>
    by_cases h200 : bs.length ≤ 200
    · have HP : Hid (BytesAt w (.slice (some a) bs.length cap) (bs.take 200)) := by
        have e : bs.take 200 = bs := List.take_of_length_le h200
        show BytesAt _ _ _
        rw [e]; exact hat
      generalize bs.length = N at hr h200 HP
      have e0 : min (N : Int) 200 = (N : Int) := by omega
      have e1 : ¬ (200 : Int) < (N : Int) := by omega
      clear hat h hl
      go_enter Try.func20, Try.ntmps20
      go_wp2
      go_ret
      exact ⟨_, rfl, HP.out, rfl⟩
    · have HP : Hid (BytesAt w (.slice (some a) 200 cap) (bs.take 200)) := hat.to_ 200 (by omega)
      generalize bs.length = N at hr h200
      have e0 : min (N : Int) 200 = 200 := by omega
      have e1 : (200 : Int) < (N : Int) := by omega
      clear hat h hl
      go_enter Try.func20, Try.ntmps20
      go_wp2
      go_ret
      exact ⟨_, rfl, HP.out, rfl⟩
end Go.Proofs.Ytekmllanhppiaaa
