/- The contracts of the reference's readers of numbers and texts. -/
import Derived.Test.YtekmllanhppiaaaCg
set_option linter.unusedSimpArgs false
set_option linter.unusedVariables false
namespace Go.Proofs.Ytekmllanhppiaaa
open Go.RowKit
open Go.Lib (byteCells uvarint zigzag)

theorem or_shift' (acc c i : Nat) (ha : acc < 2 ^ (7 * i)) (hi : i ≤ 9) (hc : c < 128) (h : 1 < c → i < 9) : bits .or .u64 (acc : Int) (IntKind.u64.wrap ((c : Int) * 2 ^ (7 * i))) = ((acc + c * 2 ^ (7 * i) : Nat) : Int) := by
  have := or_shift acc c i ha hi (by omega) h
  have e : (c : Int) % 128 = (c : Int) := by omega
  rw [e, Nat.mod_eq_of_lt hc] at this
  exact this
/-- Where the reference stands. -/
def Mid (R : Except Int (Nat × Nat)) (bs : List UInt8) (p i : Nat) (z : Int) : Prop :=
  (i ≤ 9 ∧ ∃ acc : Nat, z = acc ∧ acc < 2 ^ (7 * i) ∧ p + i ≤ bs.length ∧ R = rdU i acc (bs.drop (p + i))) ∨ (i = 10 ∧ R = .error 21)
def SamePost (v : Value) (w : World) (e : Ending) (w' : World) : Prop := e = .returned v ∧ w = w'
theorem same_post {v u : Value} {w : World} (h : u = v) : SamePost v w (.returned u) w := ⟨by rw [h], rfl⟩
theorem out_err {R : Except Int (Nat × Nat)} {p : Nat} {c : Int} (h : R = .error c) : (.tuple #[.int .u64 0, .int .i64 0, .int .i64 c] : Value) = triple mkU (outOf 0 p R) := by rw [h]; rfl
theorem out_ok {R : Except Int (Nat × Nat)} {p x k : Nat} {y z : Int} (h : R = .ok (x, k)) (h1 : y = x) (h2 : z = ((p + k : Nat) : Int)) : (.tuple #[.int .u64 y, .int .i64 z, .int .i64 0] : Value) = triple mkU (outOf 0 p R) := by rw [h, h1, h2]; rfl

theorem refUint_bad (a : Option Addr) (cap N : Nat) (p : Int) (w : World) (h : p < 0 ∨ (N : Int) < p) : Calls Try.prog 41 #[.slice a N cap, .int .i64 p] w (SamePost (.tuple #[.int .u64 0, .int .i64 0, .int .i64 1]) w) := by
  by_cases h0 : p < 0
  · go_enter Try.func41, Try.ntmps41
    go_wp2
    go_ret3
    exact same_post rfl
  · have h1 : (N : Int) < p := by omega
    go_enter Try.func41, Try.ntmps41
    go_wp2
    go_ret3
    exact same_post rfl

set_option maxHeartbeats 4000000 in
set_option maxRecDepth 100000 in
theorem refUint_in (a : Option Addr) (cap : Nat) (bs : List UInt8) (p : Nat) (w : World) (h : Laid w a bs) (hp : p ≤ bs.length) (hf : bs.length ≤ 1099511627776) :
    Calls Try.prog 41 #[.slice a bs.length cap, .int .i64 (p : Int)] w (SamePost (triple mkU (outOf 0 p (rdU 0 0 (bs.drop p)))) w) := by
  generalize hR : rdU 0 0 (bs.drop p) = R
  have hm : Mid R bs p 0 0 := .inl ⟨by omega, 0, rfl, by simp, by omega, by rw [← hR]; rfl⟩
  have HM0 := Lib.hid hm
  have H := Lib.hid h
  obtain ⟨N, hN⟩ : ∃ N, N = bs.length := ⟨_, rfl⟩
  rw [← hN] at hp hf ⊢
  have HN := Lib.hid hN
  have h0 : ¬ ((p : Int) < 0) := by omega
  have h1 : decide ((N : Int) < (p : Int)) = false := by simp; omega
  have h1' : decide (N < p) = false := by simp; omega
  clear hR hm h hN
  go_enter Try.func41, Try.ntmps41
  go_wp2
  go_loop [7, 8] (fun vn vi => ∃ (i : Nat) (z : Int), vn = .int .u64 z ∧ vi = .int .i64 i ∧ i ≤ 10 ∧ Mid R bs p i z) (fun _ vi => 10 - (intOf vi).toNat)
  case atStart => exact ⟨0, 0, rfl, rfl, by omega, HM0.out⟩
  case round =>
    obtain ⟨i, z, rfl, rfl, hi10, hmid⟩ := hrel
    clear HM0 h0 h1 h1'
    rcases hmid with ⟨hi, acc, rfl, hacc, hpl, hr⟩ | ⟨rfl, hr⟩
    · have d0 : decide ((i : Int) < 10) = true := by simp; omega
      have w1 : wrap64 ((p : Int) + (i : Int)) = (p : Int) + (i : Int) := by unfold wrap64; omega
      have w2 : ((p : Int) + (i : Int)).toNat = p + i := by omega
      have HACC := Lib.hid hacc
      have HRR := Lib.hid hr
      clear hacc hr
      by_cases hlt : p + i < N
      · have hlt' : p + i < bs.length := by rw [← HN.out]; exact hlt
        have hc := drop_at hlt'
        obtain ⟨g, off, rfl, g1, g2⟩ := H.out.resolve_left (by rintro e; rw [e] at hlt'; simp at hlt')
        have kc := g2 (p + i) hlt'
        have d1 : decide ((N : Int) ≤ (p : Int) + (i : Int)) = false := by simp; omega
        have d1' : decide (N ≤ p + i) = false := by simp; omega
        obtain ⟨c, hcn⟩ : ∃ c : Nat, c = bs[p + i].toNat := ⟨_, rfl⟩
        have hc256 : c < 256 := by rw [hcn]; exact bs[p + i].toNat_lt
        have HRC : Hid (R = if (c = 0 ∧ 0 < i) ∨ (1 < c ∧ 9 ≤ i) then .error 21 else if c < 128 then .ok (acc + c * 2 ^ (7 * i), i + 1) else rdU (i + 1) (acc + (c % 128) * 2 ^ (7 * i)) (bs.drop (p + i + 1))) := by
          show _ = _
          rw [HRR.out, hc, rdU, hcn]
        rw [← hcn] at kc
        have HG := Lib.hid g2
        clear hcn hc g2 HRR
        have hcase : (c = 0 ∧ i = 0) ∨ (c = 0 ∧ 0 < i) ∨ c = 1 ∨ (1 < c ∧ c < 128 ∧ i = 9) ∨ (1 < c ∧ c < 128 ∧ i < 9) ∨ 128 ≤ c := by omega
        rcases hcase with ⟨rfl, rfl⟩ | ⟨rfl, hi0⟩ | rfl | ⟨h1, h128, rfl⟩ | ⟨h1, h128, h9⟩ | h128
        · obtain rfl : acc = 0 := by have := HACC.out; simpa using this
          have a4 : bits .or .u64 0 0 = 0 := by decide
          have a5 : IntKind.u64.wrap 0 = 0 := by decide
          have kc' : w.cell? ⟨g, off + p, none⟩ = some (.int .u8 0) := by simpa using kc
          have w3 : wrap64 ((p : Int) + 1) = (p : Int) + 1 := by unfold wrap64; omega
          have hR : Hid (R = .ok (0, 1)) := by have := HRC.out; simp at this; exact this
          clear kc d1' w2 w1 HRC
          go_wp2
          go_ret3
          exact same_post (out_ok hR.out rfl (by push_cast; rfl))
        · have a1 : decide ((0 : Int) < (i : Int)) = true := by simp; omega
          have a2 : decide (0 < i) = true := by simp; omega
          have hR : Hid (R = .error 21) := by show _ = _; rw [HRC.out, if_pos (by omega)]
          clear HRC
          go_wp2
          go_ret3
          exact same_post (out_err hR.out)
        · have w3 : wrap64 ((p : Int) + (i : Int) + 1) = (p : Int) + (i : Int) + 1 := by unfold wrap64; omega
          have hor := or_shift' acc 1 i HACC.out hi (by omega) (by omega)
          obtain ⟨m, hm⟩ : ∃ m, m = acc + 1 * 2 ^ (7 * i) := ⟨_, rfl⟩
          rw [← hm] at hor
          have hR : Hid (R = .ok (m, i + 1)) := by show _ = _; rw [HRC.out, if_neg (by omega), if_pos (by omega), hm]
          by_cases h9 : i = 9
          · subst h9
            have e9 : IntKind.u64.wrap (((1 : Nat) : Int) * 2 ^ (7 * 9)) = 9223372036854775808 := by decide
            rw [e9] at hor
            have e8 : IntKind.u64.wrap 9223372036854775808 = 9223372036854775808 := by decide
            clear hm HRC e9 w3
            go_wp2
            go_ret3
            exact same_post (out_ok hR.out rfl (by push_cast; rfl))
          · have a3 : ((i : Int) == 9) = false := by simp; omega
            have hor' : bits .or .u64 (acc : Int) (IntKind.u64.wrap (2 ^ (7 * i))) = (m : Int) := by simpa using hor
            clear hm hor HRC
            go_wp2
            go_ret3
            exact same_post (out_ok hR.out rfl (by push_cast; exact Int.add_assoc _ _ _))
        · have a1 : decide ((c : Int) < 128) = true := by simp; omega
          have a2 : ((c : Int) == 0) = false := by simp; omega
          have a3 : decide ((1 : Int) < (c : Int)) = true := by simp; omega
          have a4 : decide (1 < c) = true := by simp; omega
          have hR : Hid (R = .error 21) := by show _ = _; rw [HRC.out, if_pos (by omega)]
          clear HRC
          go_wp2
          go_ret3
          exact same_post (out_err hR.out)
        · have a1 : decide ((c : Int) < 128) = true := by simp; omega
          have a2 : ((c : Int) == 0) = false := by simp; omega
          have a3 : ((i : Int) == 9) = false := by simp; omega
          have w3 : wrap64 ((p : Int) + (i : Int) + 1) = (p : Int) + (i : Int) + 1 := by unfold wrap64; omega
          have hor := or_shift' acc c i HACC.out hi h128 (fun _ => h9)
          obtain ⟨m, hm⟩ : ∃ m, m = acc + c * 2 ^ (7 * i) := ⟨_, rfl⟩
          rw [← hm] at hor
          have hR : Hid (R = .ok (m, i + 1)) := by show _ = _; rw [HRC.out, if_neg (by omega), if_pos h128, hm]
          clear hm HRC
          go_wp2
          go_ret3
          exact same_post (out_ok hR.out rfl (by push_cast; exact Int.add_assoc _ _ _))
        · have a1 : decide ((c : Int) < 128) = false := by simp; omega
          have hand : bits .and .u8 (c : Int) 127 = (c : Int) % 128 := by rw [and_u8_127 c hc256]; omega
          have HN9 : Hid (∀ z : Int, (i < 9 → z = ((acc + c % 128 * 2 ^ (7 * i) : Nat) : Int)) → Mid R bs p (i + 1) z) := by
            intro z hz
            by_cases h9 : i < 9
            · exact .inl ⟨by omega, _, hz h9, rdU_acc i acc c HACC.out, by omega, by rw [HRC.out, if_neg (by omega), if_neg (by omega)]; rfl⟩
            · exact .inr ⟨by omega, by rw [HRC.out, if_pos (by omega)]⟩
          have HOR : Hid (i < 9 → bits .or .u64 (acc : Int) (IntKind.u64.wrap ((c : Int) % 128 * 2 ^ (7 * i))) = ((acc + c % 128 * 2 ^ (7 * i) : Nat) : Int)) := fun h9 => or_shift acc c i HACC.out hi hc256 (fun _ => h9)
          clear HRC
          go_wp2
          go_round
          case rel => exact ⟨i + 1, _, rfl, by go_num, by omega, HN9.out _ HOR.out⟩
          case measure => simp [intOf]; omega
      · have hR : Hid (R = .error 20) := by
          show _ = _
          rw [HRR.out, List.drop_eq_nil_of_le (by rw [← HN.out]; omega)]
          rfl
        have d1 : decide ((N : Int) ≤ (p : Int) + (i : Int)) = true := by simp; omega
        have d1' : decide (N ≤ p + i) = true := by simp; omega
        clear HRR
        go_wp2
        go_ret3
        exact same_post (out_err hR.out)
    · have hR := Lib.hid hr
      clear hr
      go_wp2
      go_ret3
      exact same_post (out_err hR.out)
end Go.Proofs.Ytekmllanhppiaaa
