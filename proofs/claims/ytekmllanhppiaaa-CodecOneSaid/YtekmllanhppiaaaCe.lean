/- The contracts of codec's decoder: int, text. -/
import Derived.Test.YtekmllanhppiaaaCd
set_option linter.unusedSimpArgs false
set_option linter.unusedVariables false
namespace Go.Proofs.Ytekmllanhppiaaa
open Go.RowKit
open Go.Lib (byteCells uvarint zigzag)

set_option maxRecDepth 100000 in
theorem int_reads (d : Nat) (a : Option Addr) (cap : Nat) (bs : List UInt8) (p : Nat) (w : World) (h : Dec w d a cap bs p) :
    Calls Try.prog 77 #[.pointer (some ⟨d, 0, none⟩)] w (Reads (fun n : Nat => .int .i64 (unzig n)) d a cap bs p w (rdU 0 0 (bs.drop p))) := by
  have hu := uint_calls d a cap bs p w h
  rcases hr : rdU 0 0 (bs.drop p) with c | ⟨n, k⟩
  · rw [hr] at hu
    have HU := Lib.hid hu
    clear hu hr h
    go_enter Try.func77, Try.ntmps77
    go_wp2_with fail
    refine HU.out.mono ?_
    rintro e w2 ⟨rfl, hb2⟩
    go_wp2
    exact ⟨rfl, rfl, hb2⟩
  · rw [hr] at hu
    obtain ⟨hn, -, -, -⟩ := rdU_bounds _ _ _ (by simp) (by omega) _ _ hr
    have a1 := and_u64_one n hn
    have a2 := unzig_code n hn
    have HU := Lib.hid hu
    clear hu hr h
    have a3 : wrap64 ((n : Int) / 2) = (n : Int) / 2 := by unfold wrap64; omega
    go_enter Try.func77, Try.ntmps77
    go_wp2_with fail
    refine HU.out.mono ?_
    rintro e w2 ⟨rfl, hd2, hb2⟩
    have HD2 := Lib.hid hd2
    have HB2 := Lib.hid hb2
    clear hd2 hb2
    go_wp2
    go_ret
    exact ⟨rfl, HD2.out, HB2.out⟩

theorem getElem_drop' {bs : List UInt8} {q i : Nat} (h : i < (bs.drop q).length) : (bs.drop q)[i] = bs[q + i]'(by simp at h; omega) := List.getElem_drop
def Laid (w : World) (a : Option Addr) (bs : List UInt8) : Prop := bs = [] ∨ ∃ g off, a = some ⟨g, off, none⟩ ∧ g < w.heap.size ∧ ∀ i (h : i < bs.length), w.cell? ⟨g, off + i, none⟩ = some (.int .u8 (bs[i].toNat : Int))
/-- 'b[q:]' -/
theorem slice_from (a : Option Addr) (cap : Nat) (bs : List UInt8) (q : Nat) (hq : q ≤ bs.length) (hc : bs.length ≤ cap) (hm : cap ≤ maxLen) (hn : a = none → cap = 0) :
    ∃ a', (∀ w : World, (Instr.slice 22 (.slice a bs.length cap) (some (.int .i64 (q : Int))) none none).run Try.prog w = .ok (.slice a' (bs.length - q) (cap - q)) w) ∧
      ∀ w : World, Laid w a bs → BytesAt w (.slice a' (bs.length - q) (cap - q)) (bs.drop q) := by
  have hqc : ¬ cap < q := by omega
  have h0 : ¬ ((q : Int) < 0) := by omega
  have hm' : cap ≤ 9223372036854775807 := hm
  by_cases he : q = cap
  · have hbq : bs.drop q = [] := List.drop_eq_nil_of_le (by omega)
    subst he
    refine ⟨a, fun w => ?_, fun w _ => ⟨a, 0, by rw [hbq]; simp; omega, by rw [hbq]; exact Nat.le_refl _, by simp, fun _ => rfl, .inl hbq⟩⟩
    have e1 : (bs.length : Int) = (q : Int) := by omega
    have e2 : bs.length = q := by omega
    cases a <;> simp [Instr.slice, run_underlying Try.underlying22, Instr.sliceBounds, Instr.sliceBound, asIntOf, go_sem, e2]
  · cases a with
    | none => exact absurd (hn rfl) (by omega)
    | some ad =>
      refine ⟨some (ad.add q), fun w => ?_, fun w hb => ⟨some (ad.add q), cap - q, by rw [List.length_drop], by rw [List.length_drop]; omega, Nat.le_trans (Nat.sub_le _ _) hm, by simp, ?_⟩⟩
      · simp [Instr.slice, run_underlying Try.underlying22, Instr.sliceBounds, Instr.sliceBound, asIntOf, go_sem]
        rw [if_pos hq, if_neg (by omega)]
      · rcases hb with rfl | ⟨g, off, hg, h1, h2⟩
        · simp
        · simp only [Option.some.injEq] at hg
          subst hg
          refine .inr ⟨g, off + q, by rw [addr_add], h1, fun i hi => ?_⟩
          rw [getElem_drop' hi, Nat.add_assoc]
          exact h2 (q + i) (by simp at hi; omega)
theorem BytesAt.to_ {w : World} {a : Option Addr} {cap m : Nat} {bs : List UInt8} (h : BytesAt w (.slice a m cap) bs) (n : Nat) (hn : n ≤ bs.length) : BytesAt w (.slice a n cap) (bs.take n) := by
  obtain ⟨a', cap', h1, h2, h3, h4, h5⟩ := h
  simp only [Value.slice.injEq] at h1
  obtain ⟨rfl, rfl, rfl⟩ := h1
  refine ⟨a, cap, by rw [List.length_take, Nat.min_eq_left hn], by rw [List.length_take]; omega, h3, h4, ?_⟩
  rcases h5 with rfl | ⟨g, off, k1, k2, k3⟩
  · simp
  · exact .inr ⟨g, off, k1, k2, fun i hi => by rw [List.getElem_take]; exact k3 i (by simp at hi; omega)⟩
/-- 'b[:n]' -/
theorem slice_to (a : Option Addr) (cap m n : Nat) (hn : n ≤ m) (hc : m ≤ cap) (hm : cap ≤ maxLen) (w : World) :
    (Instr.slice 22 (.slice a m cap) none (some (.int .u64 (n : Int))) none).run Try.prog w = .ok (.slice a n cap) w := by
  have h0 : n ≤ cap := by omega
  have hm' : cap ≤ 9223372036854775807 := hm
  cases a <;> simp [Instr.slice, run_underlying Try.underlying22, Instr.sliceBounds, Instr.sliceBound, asIntOf, go_sem, h0]
theorem Dec.bytes {w : World} {d : Nat} {a : Option Addr} {cap : Nat} {bs : List UInt8} {p : Nat} (h : Dec w d a cap bs p) : Laid w a bs :=
  h.byt.imp id fun ⟨g, off, h1, h2, _, h4⟩ => ⟨g, off, h1, h2, h4⟩
theorem bytes_drewN {w : World} {v : Value} {bs : List UInt8} (h : BytesAt w v bs) (n : Nat) : BytesAt (w.drewN n) v bs := h.later ⟨rfl, rfl, rfl, Nat.le_refl _, fun _ _ => rfl⟩
theorem below_drewN (w : World) (n : Nat) : Below w.heap.size w (w.drewN n) := ⟨rfl, rfl, rfl, Nat.le_refl _, fun _ _ => rfl⟩
theorem Dec.laid_set {w : World} {d : Nat} {a : Option Addr} {cap : Nat} {bs : List UInt8} {p : Nat} (h : Dec w d a cap bs p) (m : Nat) (z : Value) : Laid ((w.drewN m).setCell ⟨d, 1, none⟩ z) a bs :=
  h.byt.imp id fun ⟨g, off, h1, h2, h3, h4⟩ => ⟨g, off, h1, by simpa [World.setCell, World.drewN] using h2, fun i hi => by rw [World.cell?_setCell_other _ _ _ _ (by simp [h3])]; exact h4 i hi⟩
set_option maxHeartbeats 1000000 in
set_option maxRecDepth 100000 in
theorem text_reads (d : Nat) (a : Option Addr) (cap : Nat) (bs : List UInt8) (p most : Nat) (hmost : most ≤ 9223372036854775807) (w : World) (h : Dec w d a cap bs p) :
    Calls Try.prog 80 #[.pointer (some ⟨d, 0, none⟩), .int .i64 most] w (Reads (fun t : ByteArray => .string t) d a cap bs p w (rdT most (bs.drop p))) := by
  have hu := uint_calls d a cap bs p w h
  have hw := h.few
  have hle := h.le
  rcases hr : rdU 0 0 (bs.drop p) with c | ⟨n, k⟩
  · rw [hr] at hu
    have HT : Hid (rdT most (bs.drop p) = .error c) := by show _ = _; unfold rdT; rw [hr]
    have HU := Lib.hid hu
    clear hu hr h
    go_enter Try.func80, Try.ntmps80
    go_wp2_with fail
    refine HU.out.mono ?_
    rintro e w2 ⟨rfl, hb2⟩
    go_wp2
    exact ⟨rfl, reads_no HT.out rfl hb2⟩
  · rw [hr] at hu
    obtain ⟨hn, -, hk, -⟩ := rdU_bounds _ _ _ (by simp) (by omega) _ _ hr
    have hk' : p + k ≤ bs.length := by simp at hk; omega
    have HT : Hid (rdT most (bs.drop p) = if most < n then .error 2 else if bs.length - (p + k) < n then .error 20 else .ok (⟨((bs.drop (p + k)).take n).toArray⟩, k + n)) := by
      show _ = _
      unfold rdT
      rw [hr]
      simp only [List.drop_drop, List.length_drop]
    have HU := Lib.hid hu
    clear hu hr hk
    have w1 : IntKind.u64.wrap (most : Int) = (most : Int) := by rw [IntKind.wrap_u64]; omega
    by_cases h2 : most < n
    · have d1 : decide ((n : Int) ≤ (most : Int)) = false := by simp; omega
      have d1' : decide (n ≤ most) = false := by simp; omega
      clear h
      go_enter Try.func80, Try.ntmps80
      go_wp2_with fail
      refine HU.out.mono ?_
      rintro e w2 ⟨rfl, hd2, hb2⟩
      go_wp2_with fail
      ((with_reducible refine (require_no _ _).mono ?_); rintro e w3 ⟨rfl, rfl⟩)
      go_wp2
      exact ⟨rfl, reads_no (by rw [HT.out, if_pos h2]) rfl hb2⟩
    · have d1 : decide ((n : Int) ≤ (most : Int)) = true := by simp; omega
      have d1' : decide (n ≤ most) = true := by simp; omega
      obtain ⟨a', hsl, hsb⟩ := slice_from a cap bs (p + k) hk' h.room h.max h.nil
      obtain ⟨q, hq⟩ : ∃ q, q = p + k := ⟨_, rfl⟩
      rw [← hq] at hsl hsb hk'
      obtain ⟨N, hN⟩ : ∃ N, N = bs.length := ⟨_, rfl⟩
      rw [← hN] at hsl hsb hk'
      have HSB := Lib.hid hsb
      have HQ := Lib.hid hq
      have HN := Lib.hid hN
      have hroom := h.room
      have hmax := h.max
      rw [← hN] at hroom hw
      have HRM := Lib.hid (And.intro hroom hmax)
      have hNq : N - q ≤ cap - q := by omega
      clear hsb hroom hmax
      have hmx := mixed
      by_cases h3 : N - q < n
      · have d5 : decide (n ≤ N - q) = false := by simp; omega
        go_enter Try.func80, Try.ntmps80
        go_wp2_with fail
        refine HU.out.mono ?_
        rintro e w2 ⟨rfl, hd2, hb2⟩
        rw [← HQ.out] at hd2
        have k0 := hd2.c0
        have k1 := hd2.c1
        have kl := hd2.lt
        have kf := hd2.f1
        rw [← HN.out] at k0
        have HD2 := Lib.hid hd2
        have HB2 := Lib.hid hb2
        clear hd2 hb2 h hq hN
        go_wp2_with fail
        ((with_reducible refine (require_yes _ _).mono ?_); rintro e w3 ⟨rfl, rfl⟩)
        go_wp2_with fail
        go_quiet (fail)
        go_wp2_with fail
        ((with_reducible refine (require_no _ _).mono ?_); rintro e w3 ⟨rfl, rfl⟩)
        go_wp2
        exact ⟨rfl, reads_no (by rw [HT.out, if_neg h2, if_pos (by rw [← HQ.out, ← HN.out]; exact h3)]) rfl (by_trans HB2.out (by_drewN _))⟩
      · have d5 : decide (n ≤ N - q) = true := by simp; omega
        have hqn : q + n ≤ N := (Nat.le_sub_iff_add_le' hk').1 (Nat.not_lt.1 h3)
        have hn40 : n ≤ 1099511627776 := Nat.le_trans (Nat.le_trans (Nat.le_add_left _ _) hqn) hw
        have hsl2 := slice_to a' (cap - q) (N - q) n (by omega) hNq (Nat.le_trans (Nat.sub_le _ _) HRM.out.2)
        have w4 : wrap64 (n : Int) = (n : Int) := by clear hn d1 d1' w1 hmost h2 d5; unfold wrap64; omega
        go_enter Try.func80, Try.ntmps80
        go_wp2_with fail
        refine HU.out.mono ?_
        rintro e w2 ⟨rfl, hd2, hb2⟩
        rw [← HQ.out] at hd2
        have k0 := hd2.c0
        have k1 := hd2.c1
        have kl := hd2.lt
        have kf := hd2.f1
        rw [← HN.out] at k0
        have hcv : ∀ m z, (convert 22 9 (.slice a' n (cap - q))).run Try.prog ((w2.drewN m).setCell ⟨d, 1, none⟩ z) = .ok (.string ⟨((bs.drop q).take n).toArray⟩) ((w2.drewN m).setCell ⟨d, 1, none⟩ z) := fun m z =>
          convert_bytes ((HSB.out _ (hd2.laid_set m z)).to_ n (by rw [List.length_drop, ← HN.out]; exact Nat.not_lt.1 h3))
        have HD2 := Lib.hid hd2
        have HB2 := Lib.hid hb2
        clear hd2 hb2 h hq hN
        go_wp2_with fail
        ((with_reducible refine (require_yes _ _).mono ?_); rintro e w3 ⟨rfl, rfl⟩)
        go_wp2_with fail
        go_quiet (fail)
        go_wp2_with fail
        ((with_reducible refine (require_yes _ _).mono ?_); rintro e w3 ⟨rfl, rfl⟩)
        go_wp2
        go_ret
        refine reads_ok (by rw [HT.out, if_neg h2, if_neg (by rw [← HQ.out, ← HN.out]; exact h3), ← HQ.out]) rfl ?_ (by_trans HB2.out (by_trans (by_drewN _) by_store))
        have := (HD2.out.drewN nq).set (q + n) (by rw [← HN.out]; exact hqn)
        rw [← Nat.add_assoc, ← HQ.out]
        exact this
end Go.Proofs.Ytekmllanhppiaaa
