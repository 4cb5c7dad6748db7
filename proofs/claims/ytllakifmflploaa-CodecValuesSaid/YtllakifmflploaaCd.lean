/- The contracts of codec's decoder: require, octet, uint, int, text. -/
import Derived.Test.YtllakifmflploaaG
import Derived.Test.YtllakifmflploaaE
import Derived.Test.YtllakifmflploaaCc
set_option linter.unusedSimpArgs false
set_option linter.unusedVariables false
namespace Go.Proofs.Ytllakifmflploaa
open Go.RowKit
open Go.Lib (byteCells uvarint zigzag)

/-- The panic with the error c. -/
abbrev pan (c : Int) : List PanicEntry := [{ v := .iface 38 (.int .i64 c), recovered := false }]
theorem require_yes (c : Int) (w : World) : Calls Try.prog 146 #[.bool true, .int .i64 c] w fun e w' => e = .returned (.tuple #[]) ∧ w = w' := by
  go_enter Try.func146, Try.ntmps146
  go_wp2
  go_end0
  exact ⟨rfl, rfl⟩
theorem require_no (c : Int) (w : World) : Calls Try.prog 146 #[.bool false, .int .i64 c] w fun e w' => e = .panicked (pan c) ∧ w = w' := by
  go_enter Try.func146, Try.ntmps146
  go_wp2
  exact ⟨rfl, rfl, rfl⟩

/-- A decoder: what it reads, and where it stands. -/
structure Dec (w : World) (d : Nat) (a : Option Addr) (cap : Nat) (bs : List UInt8) (p : Nat) : Prop where
  lt : d < w.heap.size
  c0 : w.cell? ⟨d, 0, none⟩ = some (.slice a bs.length cap)
  c1 : w.cell? ⟨d, 1, none⟩ = some (.int .i64 p)
  f1 : w.frozen? ⟨d, 1, none⟩ = false
  le : p ≤ bs.length
  few : bs.length ≤ 1099511627776
  room : bs.length ≤ cap
  max : cap ≤ maxLen
  nil : a = none → cap = 0
  byt : bs = [] ∨ ∃ g off, a = some ⟨g, off, none⟩ ∧ g < w.heap.size ∧ g ≠ d ∧ ∀ i (h : i < bs.length), w.cell? ⟨g, off + i, none⟩ = some (.int .u8 (bs[i].toNat : Int))
theorem Dec.grown {w w' : World} {d : Nat} {a : Option Addr} {cap : Nat} {bs : List UInt8} {p : Nat} (h : Dec w d a cap bs p) (hg : w.grownBy w' none) : Dec w' d a cap bs p :=
  ⟨Nat.lt_of_lt_of_le h.lt hg.size, hg.cell h.c0 (by simp), hg.cell h.c1 (by simp), by rw [World.frozen?_of_block (w := w) (hg.block d h.lt (by simp))]; exact h.f1, h.le, h.few, h.room, h.max, h.nil,
    h.byt.imp id fun ⟨g, off, h1, h2, h3, h4⟩ => ⟨g, off, h1, Nat.lt_of_lt_of_le h2 hg.size, h3, fun i hi => hg.cell (h4 i hi) (by simp)⟩⟩
theorem Dec.drew {w : World} {d : Nat} {a : Option Addr} {cap : Nat} {bs : List UInt8} {p : Nat} (h : Dec w d a cap bs p) : Dec w.drew d a cap bs p := h.grown ⟨rfl, rfl, rfl, Nat.le_refl _, fun _ _ _ => rfl⟩
theorem Dec.drewN {w : World} {d : Nat} {a : Option Addr} {cap : Nat} {bs : List UInt8} {p : Nat} (h : Dec w d a cap bs p) (n : Nat) : Dec (w.drewN n) d a cap bs p := h.grown ⟨rfl, rfl, rfl, Nat.le_refl _, fun _ _ _ => rfl⟩
theorem Dec.alloc {w : World} {d : Nat} {a : Option Addr} {cap : Nat} {bs : List UInt8} {p : Nat} (h : Dec w d a cap bs p) (o : Obj) : Dec (w.alloc o) d a cap bs p := h.grown (World.grownBy_alloc w o none)
theorem Dec.set {w : World} {d : Nat} {a : Option Addr} {cap : Nat} {bs : List UInt8} {p : Nat} (h : Dec w d a cap bs p) (q : Nat) (hq : q ≤ bs.length) : Dec (w.setCell ⟨d, 1, none⟩ (.int .i64 (q : Int))) d a cap bs q :=
  ⟨by have := h.lt; simpa [World.setCell] using this, by rw [World.cell?_setCell_other _ _ _ _ (by simp)]; exact h.c0, World.cell?_setCell_same _ _ _ h.c1, by have := h.f1; simpa using this, hq, h.few, h.room, h.max, h.nil,
    h.byt.imp id fun ⟨g, off, h1, h2, h3, h4⟩ => ⟨g, off, h1, by simpa [World.setCell] using h2, h3, fun i hi => by rw [World.cell?_setCell_other _ _ _ _ (by simp [h3])]; exact h4 i hi⟩⟩

theorem Dec.next {w : World} {d : Nat} {a : Option Addr} {cap : Nat} {bs : List UInt8} {p : Nat} (h : Dec w d a cap bs p) (hq : p + 1 ≤ bs.length) : Dec (w.setCell ⟨d, 1, none⟩ (.int .i64 ((p : Int) + 1))) d a cap bs (p + 1) := h.set (p + 1) hq
def GotByte (d : Nat) (a : Option Addr) (cap : Nat) (bs : List UInt8) (p : Nat) (w : World) (x : Nat) (e : Ending) (w' : World) : Prop := e = .returned (.int .u8 (x : Int)) ∧ Dec w' d a cap bs (p + 1) ∧ w.grownBy w' (some d)
def Stops (c : Int) (d : Nat) (w : World) (e : Ending) (w' : World) : Prop := e = .panicked (pan c) ∧ w.grownBy w' (some d)
theorem by_drew {w : World} {r : Option Nat} : w.grownBy w.drew r := ⟨rfl, rfl, rfl, Nat.le_refl _, fun _ _ _ => rfl⟩
theorem by_drewN {w : World} {r : Option Nat} (n : Nat) : w.grownBy (w.drewN n) r := ⟨rfl, rfl, rfl, Nat.le_refl _, fun _ _ _ => rfl⟩
theorem by_refl {w : World} {r : Option Nat} : w.grownBy w r := ⟨rfl, rfl, rfl, Nat.le_refl _, fun _ _ _ => rfl⟩

set_option maxRecDepth 100000 in
theorem octet_end (d : Nat) (a : Option Addr) (cap : Nat) (bs : List UInt8) (w : World) (h : Dec w d a cap bs bs.length) : Calls Try.prog 147 #[.pointer (some ⟨d, 0, none⟩)] w (Stops 20 d w) := by
  have mx := mixed
  have k0 := h.c0
  have k1 := h.c1
  have kl := h.lt
  have H := Lib.hid h
  generalize hN : bs.length = N at k0 k1
  have HN := Lib.hid hN
  clear h hN
  go_enter Try.func147, Try.ntmps147
  go_wp2_with fail
  refine still_tail_drew 10 mx (by kernel_rfl) ?_
  simp only [List.take_succ_cons, List.take_zero, List.drop_succ_cons, List.drop_zero]
  repeat still_step
  refine wpStill_nil ?_
  go_wp2_with fail
  refine (require_no _ _).mono ?_
  rintro e w1 ⟨rfl, rfl⟩
  go_wp2
  exact ⟨rfl, rfl, by_drew⟩

set_option maxRecDepth 100000 in
theorem octet_one (d : Nat) (a : Option Addr) (cap : Nat) (bs : List UInt8) (p : Nat) (hp : p < bs.length) (w : World) (h : Dec w d a cap bs p) : Calls Try.prog 147 #[.pointer (some ⟨d, 0, none⟩)] w (GotByte d a cap bs p w (bs[p].toNat)) := by
  have mx := mixed
  have k0 := h.c0
  have k1 := h.c1
  have kl := h.lt
  have kf := h.f1
  have hf := h.few
  obtain ⟨g, off, rfl, g1, g2, g3⟩ := h.byt.resolve_left (by rintro rfl; simp at hp)
  have kc := g3 p hp
  have H := Lib.hid h
  generalize bs[p].toNat = x at kc ⊢
  have hs : w.drew.heap.size = w.heap.size := rfl
  have hp1 : p + 1 ≤ bs.length := hp
  generalize hN : bs.length = N at k0 hp hf hp1
  have HN := Lib.hid hN
  have hlt : decide ((p : Int) < (N : Int)) = true := by simp; exact hp
  have hlt2 : decide (p < N) = true := by simp; exact hp
  have i1 : (0 : Int) ≤ (p : Int) := by omega
  have i2 : (p : Int) < (N : Int) := by omega
  clear h g3 hN
  go_enter Try.func147, Try.ntmps147
  go_wp2_with fail
  refine still_tail_drew 10 mx (by kernel_rfl) ?_
  simp only [List.take_succ_cons, List.take_zero, List.drop_succ_cons, List.drop_zero]
  repeat still_step
  refine wpStill_nil ?_
  go_wp2_with fail
  refine (require_yes _ _).mono ?_
  rintro e w1 ⟨rfl, rfl⟩
  go_wp2
  go_quiet (fail)
  go_wp2
  go_ret
  exact ⟨rfl, (H.out.drewN _).next (by rw [HN.out]; exact hp1), by_trans (by_drewN _) by_store⟩

/-- What a reader of a decoder leaves. -/
def Reads {α : Type} (mk : α → Value) (d : Nat) (a : Option Addr) (cap : Nat) (bs : List UInt8) (p : Nat) (w : World) (r : Except Int (α × Nat)) (e : Ending) (w' : World) : Prop :=
  match r with
  | .ok (x, k) => e = .returned (mk x) ∧ Dec w' d a cap bs (p + k) ∧ w.grownBy w' (some d)
  | .error c => Stops c d w e w'

theorem reads_ok {α : Type} {mk : α → Value} {d : Nat} {a : Option Addr} {cap : Nat} {bs : List UInt8} {p : Nat} {w : World} {r : Except Int (α × Nat)} {v : Value} {w' : World} {x : α} {k : Nat} (hr : r = .ok (x, k)) (hv : v = mk x) (hd : Dec w' d a cap bs (p + k)) (hb : w.grownBy w' (some d)) : Reads mk d a cap bs p w r (.returned v) w' := by
  subst hr; subst hv; exact ⟨rfl, hd, hb⟩
theorem reads_no {α : Type} {mk : α → Value} {d : Nat} {a : Option Addr} {cap : Nat} {bs : List UInt8} {p : Nat} {w : World} {r : Except Int (α × Nat)} {c : Int} {ch : List PanicEntry} {w' : World} (hr : r = .error c) (hc : ch = pan c) (hb : w.grownBy w' (some d)) : Reads mk d a cap bs p w r (.panicked ch) w' := by
  subst hr; subst hc; exact ⟨rfl, hb⟩
theorem or_shift (acc c i : Nat) (ha : acc < 2 ^ (7 * i)) (hi : i ≤ 9) (hc : c < 256) (h : 1 < c → i < 9) : bits .or .u64 (acc : Int) (IntKind.u64.wrap ((c : Int) % 128 * 2 ^ (7 * i))) = ((acc + c % 128 * 2 ^ (7 * i) : Nat) : Int) := by
  have hlt : c % 128 * 2 ^ (7 * i) < 18446744073709551616 := by
    by_cases h1 : 1 < c
    · have hp : 2 ^ (7 * i) ≤ 2 ^ 56 := Nat.pow_le_pow_right (by decide) (by have := h h1; omega)
      have : c % 128 * 2 ^ (7 * i) ≤ 127 * 2 ^ 56 := Nat.mul_le_mul (by omega) hp
      omega
    · have hp : 2 ^ (7 * i) ≤ 2 ^ 63 := Nat.pow_le_pow_right (by decide) (by omega)
      have : c % 128 * 2 ^ (7 * i) ≤ 1 * 2 ^ 63 := Nat.mul_le_mul (by omega) hp
      omega
  have e : (c : Int) % 128 * 2 ^ (7 * i) = ((c % 128 * 2 ^ (7 * i) : Nat) : Int) := by push_cast; rfl
  have e2 : IntKind.u64.wrap ((c % 128 * 2 ^ (7 * i) : Nat) : Int) = ((c % 128 * 2 ^ (7 * i) : Nat) : Int) := by rw [IntKind.wrap_u64]; omega
  rw [e, e2, or_u64_shift acc (c % 128) i ha hi hlt]
theorem drop_at {bs : List UInt8} {k : Nat} (h : k < bs.length) : bs.drop k = bs[k] :: bs.drop (k + 1) := List.drop_eq_getElem_cons h
set_option maxHeartbeats 2000000 in
set_option maxRecDepth 100000 in
theorem uint_calls (d : Nat) (a : Option Addr) (cap : Nat) (bs : List UInt8) (p : Nat) (w : World) (h : Dec w d a cap bs p) :
    Calls Try.prog 122 #[.pointer (some ⟨d, 0, none⟩)] w (Reads (fun n : Nat => .int .u64 n) d a cap bs p w (rdU 0 0 (bs.drop p))) := by
  have H := Lib.hid h
  have hp := h.le
  clear h
  generalize hR : rdU 0 0 (bs.drop p) = R
  have HR := Lib.hid hR
  clear hR
  go_enter Try.func122, Try.ntmps122
  go_wp2_with fail
  go_loopw [3, 4] (fun vn vs wr => ∃ (i acc : Nat), vn = .int .u64 acc ∧ vs = .int .i64 (7 * i : Nat) ∧ i ≤ 9 ∧ acc < 2 ^ (7 * i) ∧ p + i ≤ bs.length ∧ R = rdU i acc (bs.drop (p + i)) ∧ Dec wr d a cap bs (p + i) ∧ w.grownBy wr (some d)) (fun _ vs _ => 70 - (intOf vs).toNat)
  case atStart => exact ⟨0, 0, rfl, rfl, by omega, by simp, by simpa using hp, HR.out.symm, by simpa using H.out, by_refl⟩
  case round =>
    obtain ⟨i, acc, rfl, rfl, hi, hacc, hpl, hr, hd, hby⟩ := hrel
    have HD := Lib.hid hd
    have HB := Lib.hid hby
    have HRR := Lib.hid hr
    have HACC := Lib.hid hacc
    clear hd hby hr hacc HR H
    by_cases hlt : p + i < bs.length
    · have hc := drop_at hlt
      have hone := octet_one d a cap bs (p + i) hlt wr HD.out
      obtain ⟨c, hcn⟩ : ∃ c : Nat, c = bs[p + i].toNat := ⟨_, rfl⟩
      have hc256 : c < 256 := by rw [hcn]; exact bs[p + i].toNat_lt
      have HRC : Hid (R = if (c = 0 ∧ 0 < i) ∨ (1 < c ∧ 9 ≤ i) then .error 21 else if c < 128 then .ok (acc + c * 2 ^ (7 * i), i + 1) else rdU (i + 1) (acc + (c % 128) * 2 ^ (7 * i)) (bs.drop (p + i + 1))) := by
        show _ = _
        rw [HRR.out, hc, rdU, hcn]
      rw [← hcn] at hone
      have HONE := Lib.hid hone
      clear hone hcn hc HRR
      have hcase : (c = 0 ∧ i = 0) ∨ (c = 0 ∧ 0 < i) ∨ c = 1 ∨ (1 < c ∧ i = 9) ∨ (1 < c ∧ c < 128 ∧ i < 9) ∨ (128 ≤ c ∧ i < 9) := by omega
      rcases hcase with ⟨rfl, rfl⟩ | ⟨rfl, hi0⟩ | rfl | ⟨h1, rfl⟩ | ⟨h1, h128, h9⟩ | ⟨h128, h9⟩
      · obtain rfl : acc = 0 := by have := HACC.out; simpa using this
        have a1 : bits .and .u8 0 127 = 0 := by decide
        have a2 : bits .and .u8 0 128 = 0 := by decide
        have a3 : IntKind.u64.wrap 0 = 0 := by decide
        have a4 : bits .or .u64 0 0 = 0 := by decide
        go_wp2_with fail
        refine HONE.out.mono ?_
        rintro e w2 ⟨rfl, hd2, hb2⟩
        go_wp2_with fail
        ((with_reducible refine (require_yes _ _).mono ?_); rintro e w3 ⟨rfl, rfl⟩)
        go_wp2_with fail
        ((with_reducible refine (require_yes _ _).mono ?_); rintro e w3 ⟨rfl, rfl⟩)
        go_wp2
        go_ret
        have hR := HRC.out
        simp at hR
        exact reads_ok hR rfl (by simpa using hd2) (by_trans HB.out hb2)
      · have a1 : (7 * (i : Int) == 0) = false := by simp; omega
        have a2 : ¬ i = 0 := by omega
        go_wp2_with fail
        refine HONE.out.mono ?_
        rintro e w2 ⟨rfl, hd2, hb2⟩
        go_wp2_with fail
        ((with_reducible refine (require_no _ _).mono ?_); rintro e w3 ⟨rfl, rfl⟩)
        go_wp2
        exact ⟨rfl, reads_no (by rw [HRC.out, if_pos (by simp; omega)]) rfl (by_trans HB.out hb2)⟩
      · have a1 : bits .and .u8 1 127 = 1 := by decide
        have a2 : bits .and .u8 1 128 = 0 := by decide
        have hor := or_shift acc 1 i HACC.out hi hc256 (by omega)
        obtain ⟨m, hm⟩ : ∃ m, m = acc + 1 % 128 * 2 ^ (7 * i) := ⟨_, rfl⟩
        rw [← hm] at hor
        have HM := Lib.hid hm
        have e1 : ((1 : Nat) : Int) % 128 = 1 := by decide
        rw [e1] at hor
        have HOR := hor
        simp only [Int.one_mul] at hor
        clear hm
        go_wp2_with fail
        refine HONE.out.mono ?_
        rintro e w2 ⟨rfl, hd2, hb2⟩
        go_wp2_with fail
        ((with_reducible refine (require_yes _ _).mono ?_); rintro e w3 ⟨rfl, rfl⟩)
        go_wp2_with fail
        ((with_reducible refine (require_yes _ _).mono ?_); rintro e w3 ⟨rfl, rfl⟩)
        go_wp2
        go_ret
        exact reads_ok (by rw [HRC.out, if_neg (by omega), if_pos (by omega), HM.out]) rfl (by simpa [Nat.add_assoc] using hd2) (by_trans HB.out hb2)
      · have d1 : (0 : Int) < (c : Int) := by omega
        have d3 : decide ((c : Int) ≤ 1) = false := by simp; omega
        go_wp2_with fail
        refine HONE.out.mono ?_
        rintro e w2 ⟨rfl, hd2, hb2⟩
        go_wp2_with fail
        ((with_reducible refine (require_yes _ _).mono ?_); rintro e w3 ⟨rfl, rfl⟩)
        go_wp2_with fail
        ((with_reducible refine (require_no _ _).mono ?_); rintro e w3 ⟨rfl, rfl⟩)
        go_wp2
        exact ⟨rfl, reads_no (by rw [HRC.out, if_pos (by omega)]) rfl (by_trans HB.out hb2)⟩
      · have hand : bits .and .u8 (c : Int) 127 = (c : Int) % 128 := by rw [and_u8_127 c hc256]; omega
        have d1 : (0 : Int) < (c : Int) := by omega
        have d3 : decide ((c : Int) ≤ 1) = false := by simp; omega
        have d4 : decide (7 * (i : Int) < 63) = true := by simp; omega
        have a4 : bits .and .u8 (c : Int) 128 = 0 := by rw [and_u8_128 c hc256, if_pos h128]
        have hor := or_shift acc c i HACC.out hi hc256 (by omega)
        obtain ⟨m, hm⟩ : ∃ m, m = acc + c % 128 * 2 ^ (7 * i) := ⟨_, rfl⟩
        rw [← hm] at hor
        have HM := Lib.hid hm
        clear hm
        go_wp2_with fail
        refine HONE.out.mono ?_
        rintro e w2 ⟨rfl, hd2, hb2⟩
        go_wp2_with fail
        ((with_reducible refine (require_yes _ _).mono ?_); rintro e w3 ⟨rfl, rfl⟩)
        go_wp2_with fail
        ((with_reducible refine (require_yes _ _).mono ?_); rintro e w3 ⟨rfl, rfl⟩)
        go_wp2
        go_ret
        exact reads_ok (by rw [HRC.out, if_neg (by omega), if_pos h128, HM.out, Nat.mod_eq_of_lt h128]) rfl (by simpa [Nat.add_assoc] using hd2) (by_trans HB.out hb2)
      · have hand : bits .and .u8 (c : Int) 127 = (c : Int) % 128 := by rw [and_u8_127 c hc256]; omega
        have d1 : (0 : Int) < (c : Int) := by omega
        have d3 : decide ((c : Int) ≤ 1) = false := by simp; omega
        have d4 : decide (7 * (i : Int) < 63) = true := by simp; omega
        have a4 : bits .and .u8 (c : Int) 128 = 128 := by rw [and_u8_128 c hc256, if_neg (by omega)]
        have hor := or_shift acc c i HACC.out hi hc256 (by omega)
        obtain ⟨m, hm⟩ : ∃ m, m = acc + c % 128 * 2 ^ (7 * i) := ⟨_, rfl⟩
        rw [← hm] at hor
        have HM := Lib.hid hm
        clear hm
        go_wp2_with fail
        refine HONE.out.mono ?_
        rintro e w2 ⟨rfl, hd2, hb2⟩
        go_wp2_with fail
        ((with_reducible refine (require_yes _ _).mono ?_); rintro e w3 ⟨rfl, rfl⟩)
        go_wp2_with fail
        ((with_reducible refine (require_yes _ _).mono ?_); rintro e w3 ⟨rfl, rfl⟩)
        have HD2 := Lib.hid hd2
        have HB2 := Lib.hid hb2
        clear hd2 hb2
        go_wp2
        go_roundw
        case rel => exact ⟨i + 1, m, rfl, by go_num, by omega, by rw [HM.out]; exact rdU_acc i acc c HACC.out, by omega, by rw [HRC.out, if_neg (by omega), if_neg (by omega), HM.out]; rfl, HD2.out, by_trans HB.out HB2.out⟩
        case measure => simp [intOf]; omega
    · have he : p + i = bs.length := by omega
      have HRE : Hid (R = .error 20) := by
        show _ = _
        rw [HRR.out, List.drop_eq_nil_of_le (by omega)]
        rfl
      have hone := octet_end d a cap bs wr (by rw [← he]; exact HD.out)
      have HONE := Lib.hid hone
      clear hone he HRR
      go_wp2_with fail
      refine HONE.out.mono ?_
      rintro e w2 ⟨rfl, hb2⟩
      go_wp2
      exact ⟨rfl, reads_no HRE.out rfl (by_trans HB.out hb2)⟩
end Go.Proofs.Ytllakifmflploaa
