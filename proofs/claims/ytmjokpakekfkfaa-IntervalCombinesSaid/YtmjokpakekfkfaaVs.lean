/- The contract of partsynclaw03.begun. -/
import Derived.Test.YtmjokpakekfkfaaVp
import Derived.Test.YtmjokpakekfkfaaVr
set_option linter.unusedSimpArgs false
set_option linter.unusedVariables false
namespace Go.Proofs.Ytmjokpakekfkfaa
open Go.RowKit

def nV (n : Int) : V := ⟨4, n, ByteArray.empty⟩
theorem num_valid (n : Int) : validB (nV n) = true := by simp [validB, validP, nV]
theorem num_cmp (a b : Int) : cmpV (nV a) (nV b) = cmpI a b := by
  have := goodS.self ByteArray.empty
  unfold cmpI
  simp only [cmpV, nV, cmpI, this]
  rw [if_pos (by simp)]
  by_cases h1 : a < b
  · simp [h1]
  · by_cases h2 : b < a
    · simp [h1, h2]
    · simp [h1, h2]
theorem between_num {a b : Int} (h : a < b) : betweenL (nV a) (nV b) = [⟨nV a, nV b, false⟩] ∧ betweenE (nV a) (nV b) = 0 := by
  have h1 : cmpV (nV a) (nV b) < 0 := by rw [num_cmp]; simp [cmpI, h]
  exact ⟨by unfold betweenL; rw [if_pos ⟨num_valid _, num_valid _, h1⟩], by unfold betweenE; rw [if_pos ⟨num_valid _, num_valid _⟩]⟩
/-- A list of one interval of two numbers is canonical. -/
theorem num_part {a b : Int} (h : a < b) : partB ⟨nV a, nV b, false⟩ = true := by
  have h1 : cmpV (nV a) (nV b) < 0 := by rw [num_cmp]; simp [cmpI, h]
  unfold partB; rw [if_neg (by simp)]; simp [num_valid, h1]
/-- Two intervals that touch. -/
theorem join_num {a b c : Int} (h1 : a < b) (h2 : b < c) (u : V) : inB [⟨nV a, nV c, false⟩] u = opOr (inB [⟨nV a, nV b, false⟩] u) (inB [⟨nV b, nV c, false⟩] u) := by
  have e1 : cmpV (nV a) (nV b) < 0 := by rw [num_cmp]; simp [cmpI, h1]
  have e2 : cmpV (nV b) (nV c) < 0 := by rw [num_cmp]; simp [cmpI, h2]
  have n1 := goodV.neg u (nV b)
  have t1 : cmpV u (nV b) < 0 → cmpV u (nV c) < 0 := fun h => goodV.lt_le h (by omega)
  have t2 : cmpV (nV b) u ≤ 0 → cmpV (nV a) u ≤ 0 := fun h => by have := goodV.lt_le e1 h; omega
  have : (inB [⟨nV a, nV c, false⟩] u = true) ↔ (opOr (inB [⟨nV a, nV b, false⟩] u) (inB [⟨nV b, nV c, false⟩] u) = true) := by
    simp only [inB, opOr, List.any_cons, List.any_nil, Bool.or_false, Bool.or_eq_true, inI_iff]
    simp only [Bool.false_eq_true, false_or]
    constructor
    · rintro ⟨x1, x2⟩
      by_cases hb : cmpV u (nV b) < 0
      · exact .inl ⟨x1, hb⟩
      · exact .inr ⟨by omega, x2⟩
    · rintro (⟨x1, x2⟩ | ⟨x1, x2⟩)
      · exact ⟨x1, t1 x2⟩
      · exact ⟨t2 x1, x2⟩
  cases hx : inB [⟨nV a, nV c, false⟩] u <;> cases hy : opOr (inB [⟨nV a, nV b, false⟩] u) (inB [⟨nV b, nV c, false⟩] u) <;> simp_all
theorem comb_num {a b c : Int} (h1 : a < b) (h2 : b < c) : doL opOr [⟨nV a, nV b, false⟩] [⟨nV b, nV c, false⟩] = [⟨nV a, nV c, false⟩] ∧ doE opOr [⟨nV a, nV b, false⟩] [⟨nV b, nV c, false⟩] = 0 := by
  have e : combL opOr [⟨nV a, nV b, false⟩] [⟨nV b, nV c, false⟩] = [⟨nV a, nV c, false⟩] := (combL_is (.one (num_part (by omega))) (join_num h1 h2)).symm
  have c1 : canonB [⟨nV a, nV b, false⟩] = true := canon_of (.one (num_part h1)) (by simp)
  have c2 : canonB [⟨nV b, nV c, false⟩] = true := canon_of (.one (num_part h2)) (by simp)
  constructor
  · unfold doL; rw [if_pos ⟨c1, c2, by rw [e]; simp⟩, e]
  · unfold doE; rw [if_pos ⟨c1, c2⟩, if_pos (by rw [e]; simp)]
theorem has_num {a b c : Int} (h1 : a ≤ b) (h2 : b < c) : hasB [⟨nV a, nV c, false⟩] (nV b) = true := by
  have c1 : canonB [⟨nV a, nV c, false⟩] = true := canon_of (.one (num_part (by omega))) (by simp)
  have e1 : cmpV (nV a) (nV b) ≤ 0 := by rw [num_cmp]; unfold cmpI; split <;> (try split) <;> omega
  have e2 : cmpV (nV b) (nV c) < 0 := by rw [num_cmp]; simp [cmpI, h2]
  simp [hasB, num_valid, c1, inB, inI, e1, e2]
theorem owned_one {w : World} {a : Option Addr} {cap : Nat} {x : I} (h : IvAt w (.slice a 1 cap) [x]) : ∃ b off, a = some ⟨b, off, none⟩ ∧ b < w.heap.size ∧ IAt w b off x := by
  obtain ⟨a', cap', e1, _, h3⟩ := h
  rcases h3 with h3 | ⟨b, off, rfl, h3⟩
  · simp at h3
  · injection e1 with e2 e3 e4
    subst e2
    have := h3.at_ 0 (by simp)
    exact ⟨b, off, rfl, h3.blk, by simpa using this⟩
set_option maxHeartbeats 1000000 in
set_option maxRecDepth 100000 in
theorem ibegun_calls (w : World) : Calls Try.prog 16 #[] w fun e w' => e = .returned (.bool true) ∧ Below w.heap.size w w' := by
  have hb1 := fun w' => between_calls (nV 1) (nV 3) w'
  have hb2 := fun w' => between_calls (nV 3) (nV 5) w'
  rw [(between_num (by omega : (1 : Int) < 3)).1, (between_num (by omega : (1 : Int) < 3)).2] at hb1
  rw [(between_num (by omega : (3 : Int) < 5)).1, (between_num (by omega : (3 : Int) < 5)).2] at hb2
  have hu := fun va vb w' h1 h2 => Union_calls va vb [⟨nV 1, nV 3, false⟩] [⟨nV 3, nV 5, false⟩] w' h1 h2
  rw [(comb_num (by omega : (1 : Int) < 3) (by omega : (3 : Int) < 5)).1, (comb_num (by omega : (1 : Int) < 3) (by omega : (3 : Int) < 5)).2] at hu
  have HB1 := Lib.hid hb1
  have HB2 := Lib.hid hb2
  have HU := Lib.hid hu
  have HN := Lib.hid (fun n w' => wide (num_calls n w'))
  have hca : canonB [⟨nV 1, nV 5, false⟩] = true := canon_of (.one (num_part (by omega))) (by simp)
  have hha : hasB [⟨nV 1, nV 5, false⟩] (nV 3) = true := has_num (by omega) (by omega)
  have hV := fun v w' h => wide (ivalid_calls v [⟨nV 1, nV 5, false⟩] w' h)
  rw [hca] at hV
  have HV := Lib.hid hV
  have hH := fun v w' h => wide (ihas_calls v [⟨nV 1, nV 5, false⟩] (nV 3) w' h)
  rw [hha] at hH
  have HH := Lib.hid hH
  clear hb1 hb2 hu hca hha hV hH
  go_enter Try.func16, Try.ntmps16
  go_wp2_with fail
  refine (HN.out _ _).mono ?_
  rintro e w' ⟨q1, os1, rfl, rfl⟩
  go_wp2_with fail
  refine (HN.out _ _).mono ?_
  rintro e w' ⟨q2, os2, rfl, rfl⟩
  go_wp2_with fail
  refine (HB1.out _).mono ?_
  rintro e w1 ⟨u1, rfl, hi1, hg1⟩
  have HG1 : Hid (Gro w w1) := ((Gro.refl w).grown _ _).trans hg1
  have HI1 := Lib.hid hi1
  obtain ⟨p1, k1, rfl⟩ := iv_slice hi1
  clear hi1 hg1
  go_wp2_with fail
  refine (HN.out _ _).mono ?_
  rintro e w' ⟨q3, os3, rfl, rfl⟩
  go_wp2_with fail
  refine (HN.out _ _).mono ?_
  rintro e w' ⟨q4, os4, rfl, rfl⟩
  go_wp2_with fail
  refine (HB2.out _).mono ?_
  rintro e w2 ⟨u2, rfl, hi2, hg2⟩
  have HG12 : Hid (Gro w1 w2) := ((Gro.refl w1).grown _ _).trans hg2
  have HI2 := Lib.hid hi2
  obtain ⟨p2, k2, rfl⟩ := iv_slice hi2
  clear hi2 hg2
  go_wp2_with fail
  refine (HU.out _ _ w2 (HI1.out.later HG12.out.below) HI2.out).mono ?_
  rintro e W ⟨p3, k3, rfl, hi3, hb3⟩
  have HBW : Hid (Below w.heap.size w W) := (HG1.out.trans HG12.out).below.trans (hb3.mono (HG1.out.trans HG12.out).size)
  have HI3 := Lib.hid hi3
  obtain ⟨b, off, rfl, hbl, hat⟩ := owned_one hi3
  obtain ⟨⟨c0, c1, c2⟩, c3, c4, c5, c6⟩ := hat
  simp only [nV] at c0 c1 c2 c3 c4 c5 c6
  have HIG : ∀ n os, Hid (IvAt (Sort.grow (W.drewN n) os) (.slice (some ⟨b, off, none⟩) 1 k3) [⟨nV 1, nV 5, false⟩]) := fun n os => HI3.out.later ((Gro.refl W).grown n os).below
  have HID : ∀ n os, Hid (IvAt (Sort.grow (W.drewN n) os) (.slice (some ⟨b, off, none⟩) 1 k3) [⟨nV 1, nV 5, false⟩]) := HIG
  have KK : Hid (∀ n os, (Sort.grow (W.drewN n) os).cell? ⟨b, off, none⟩ = some (.int .i64 4) ∧ (Sort.grow (W.drewN n) os).cell? ⟨b, off + 1, none⟩ = some (.int .i64 1) ∧ (Sort.grow (W.drewN n) os).cell? ⟨b, off + 2, none⟩ = some (.string ByteArray.empty) ∧ (Sort.grow (W.drewN n) os).cell? ⟨b, off + 3, none⟩ = some (.int .i64 4) ∧ (Sort.grow (W.drewN n) os).cell? ⟨b, off + 4, none⟩ = some (.int .i64 5) ∧ (Sort.grow (W.drewN n) os).cell? ⟨b, off + 5, none⟩ = some (.string ByteArray.empty)) := fun n os => ⟨cell_grown hbl c0 n os, cell_grown hbl c1 n os, cell_grown hbl c2 n os, cell_grown hbl c3 n os, cell_grown hbl c4 n os, cell_grown hbl c5 n os⟩
  clear hi3 hb3 HI1 HI2 HB1 HB2 HU
  go_wp2_with fail
  go_region_held3 (fun w' => w'.cell? ⟨b, off, none⟩ = some (.int .i64 4) ∧ w'.cell? ⟨b, off + 1, none⟩ = some (.int .i64 1) ∧ w'.cell? ⟨b, off + 2, none⟩ = some (.string ByteArray.empty) ∧ w'.cell? ⟨b, off + 3, none⟩ = some (.int .i64 4) ∧ w'.cell? ⟨b, off + 4, none⟩ = some (.int .i64 5) ∧ w'.cell? ⟨b, off + 5, none⟩ = some (.string ByteArray.empty)) (first | exact KK.out _ _ | go_keep)
    (first
      | (go_at_call 47; refine (HN.out _ _).mono ?_; rintro e w' ⟨q, os, rfl, rfl⟩)
      | (go_at_call 9; refine (HV.out _ _ (HIG _ _).out).mono ?_; rintro e w' ⟨q, os, rfl, rfl⟩)
      | (go_at_call 14; refine (HH.out _ _ (HIG _ _).out).mono ?_; rintro e w' ⟨q, os, rfl, rfl⟩)
      | (go_at_call 48; refine (all_calls _).mono ?_; rintro e w' ⟨bb, rfl, hiv, hgg⟩; obtain ⟨q, os, rfl⟩ := hgg.grow; clear hiv hgg))
  go_wp2
  go_ret
  exact ⟨rfl, HBW.out.trans (((Gro.refl W).grown _ _).below.mono HBW.out.size)⟩
end Go.Proofs.Ytmjokpakekfkfaa
