/- The plain mathematics of reading back: what was written is read, and a proper beginning is cut short. -/
import Derived.Test.YtekmllanhppiaaaCl
set_option linter.unusedSimpArgs false
set_option linter.unusedVariables false
namespace Go.Proofs.Ytekmllanhppiaaa
open Go.RowKit
open Go.Lib (byteCells uvarint zigzag)

theorem rdU_cut0 (n k : Nat) (h : n < 18446744073709551616) (hk : k < (uvarint n).length) : rdU 0 0 ((uvarint n).take k) = .error 20 :=
  rdU_cut n n 0 0 k (Nat.le_refl _) (by omega) (by simpa using h) (fun _ => rfl) hk
theorem text_len (t : ByteArray) : t.data.toList.length = t.size := rfl
theorem rdT_back (most : Nat) (t : ByteArray) (h : t.size ≤ most) (hs : t.size < 18446744073709551616) (rest : List UInt8) : rdT most (encT t ++ rest) = .ok (t, (encT t).length) := by
  unfold rdT encT
  rw [List.append_assoc, rdU_uvarint t.size hs]
  simp only
  rw [if_neg (by omega), List.drop_left, if_neg (by simp only [List.length_append, text_len]; omega)]
  have e : (t.data.toList ++ rest).take t.size = t.data.toList := by rw [List.take_append_of_le_length (by rw [text_len]; exact Nat.le_refl _), List.take_of_length_le (by rw [text_len]; exact Nat.le_refl _)]
  rw [e, List.length_append, text_len]
theorem rdT_cut (most : Nat) (t : ByteArray) (h : t.size ≤ most) (hs : t.size < 18446744073709551616) (j : Nat) (hj : j < (encT t).length) : rdT most ((encT t).take j) = .error 20 := by
  unfold encT at hj ⊢
  by_cases hu : j < (uvarint t.size).length
  · rw [List.take_append_of_le_length (by omega)]
    unfold rdT
    rw [rdU_cut0 t.size j hs hu]
  · rw [List.length_append, text_len] at hj
    have e : (uvarint t.size ++ t.data.toList).take j = uvarint t.size ++ t.data.toList.take (j - (uvarint t.size).length) := by
      rw [List.take_append]
      rw [List.take_of_length_le (by omega)]
    rw [e]
    unfold rdT
    rw [rdU_uvarint t.size hs]
    simp only
    rw [if_neg (by omega), List.drop_left, if_pos (by rw [List.length_take, text_len]; omega)]
theorem empty_data : (⟨#[]⟩ : ByteArray) = ByteArray.empty := rfl
theorem toNat_byte (n : Nat) (h : n < 256) : (n.toUInt8).toNat = n := Go.Lib.toUInt8_toNat h
theorem rdV_back {v : V} (hv : validB v = true) (hn : isI64 v.n) (rest : List UInt8) : rdV (encV v ++ rest) = .ok (v, (encV v).length) := by
  have hp := of_decide_eq_true hv
  unfold validP at hp
  obtain ⟨k, n, t⟩ := v
  simp only at hp hn
  rcases hp with ⟨rfl | rfl, rfl, rfl⟩ | ⟨rfl, rfl | rfl, rfl⟩ | ⟨rfl, rfl⟩ | ⟨rfl, rfl, ht⟩
  · rw [encV_1]; rfl
  · rw [encV_2]; rfl
  · rw [encV_3]; rfl
  · rw [encV_3]; rfl
  · rw [encV_4, List.append_assoc, List.singleton_append]
    have e : rdV (4 :: (uvarint (zigzag n) ++ rest)) = match rdU 0 0 (uvarint (zigzag n) ++ rest) with | .error e => .error e | .ok (n, k) => .ok (⟨4, unzig n, ⟨#[]⟩⟩, 1 + k) := rfl
    rw [e, rdU_uvarint _ (Go.Lib.zigzag_lt hn.1 hn.2)]
    simp only
    rw [unzig_zigzag, List.length_append]
    rfl
  · rw [encV_5, List.append_assoc, List.singleton_append]
    have e : rdV (5 :: (encT t ++ rest)) = match rdT 64 (encT t ++ rest) with | .error e => .error e | .ok (t, k) => .ok (⟨5, 0, t⟩, 1 + k) := rfl
    rw [e, rdT_back 64 t ht (by omega)]
    simp only
    rw [List.length_append]
    rfl
theorem rdV_cut {v : V} (hv : validB v = true) (hn : isI64 v.n) (j : Nat) (hj : j < (encV v).length) : rdV ((encV v).take j) = .error 20 := by
  rcases j with _ | j
  · rfl
  have hc := valid_cases hv
  obtain ⟨k, n, t⟩ := v
  simp only at hc hn
  rcases hc with (rfl | rfl) | ⟨rfl, _⟩ | rfl | ⟨rfl, ht⟩
  · rw [encV_1] at hj; simp at hj
  · rw [encV_2] at hj; simp at hj
  · rw [encV_3] at hj ⊢
    obtain rfl : j = 0 := by simp at hj; omega
    rfl
  · rw [encV_4] at hj ⊢
    rw [List.singleton_append, List.take_succ_cons]
    have e : rdV (4 :: (uvarint (zigzag n)).take j) = match rdU 0 0 ((uvarint (zigzag n)).take j) with | .error e => .error e | .ok (n, k) => .ok (⟨4, unzig n, ⟨#[]⟩⟩, 1 + k) := rfl
    rw [e, rdU_cut0 _ j (Go.Lib.zigzag_lt hn.1 hn.2) (by simpa using hj)]
  · rw [encV_5] at hj ⊢
    rw [List.singleton_append, List.take_succ_cons]
    have e : rdV (5 :: (encT t).take j) = match rdT 64 ((encT t).take j) with | .error e => .error e | .ok (t, k) => .ok (⟨5, 0, t⟩, 1 + k) := rfl
    rw [e, rdT_cut 64 t ht (by omega) j (by simpa using hj)]
theorem rdVs_back : ∀ (r : List V) (h : ∀ x ∈ r, validB x = true ∧ isI64 x.n) (rest : List UInt8), rdVs r.length (encVs r ++ rest) = .ok (r, (encVs r).length) := by
  intro r
  induction r with
  | nil => intro h rest; rfl
  | cons x r ih =>
    intro h rest
    rw [encVs, List.append_assoc, List.length_cons, rdVs, rdV_back (h x (by simp)).1 (h x (by simp)).2]
    simp only
    rw [List.drop_left, ih (fun y hy => h y (by simp [hy]))]
    simp only [List.length_append]
theorem rdVs_cut : ∀ (r : List V) (h : ∀ x ∈ r, validB x = true ∧ isI64 x.n) (j : Nat), j < (encVs r).length → rdVs r.length ((encVs r).take j) = .error 20 := by
  intro r
  induction r with
  | nil => intro h j hj; simp [encVs] at hj
  | cons x r ih =>
    intro h j hj
    rw [encVs] at hj ⊢
    by_cases hx : j < (encV x).length
    · rw [List.take_append_of_le_length (by omega), List.length_cons, rdVs, rdV_cut (h x (by simp)).1 (h x (by simp)).2 j hx]
    · have e : (encV x ++ encVs r).take j = encV x ++ (encVs r).take (j - (encV x).length) := by
        rw [List.take_append, List.take_of_length_le (by omega)]
      rw [e, List.length_cons, rdVs, rdV_back (h x (by simp)).1 (h x (by simp)).2]
      simp only
      rw [List.drop_left, ih (fun y hy => h y (by simp [hy])) _ (by rw [List.length_append] at hj; omega)]
theorem rdR_back {r : List V} (h12 : r.length ≤ 12) (h : ∀ x ∈ r, validB x = true ∧ isI64 x.n) (rest : List UInt8) : rdR (encR r ++ rest) = .ok (r, (encR r).length) := by
  unfold rdR encR
  rw [List.append_assoc, rdU_uvarint _ (by omega)]
  simp only
  rw [if_neg (by omega), List.drop_left, rdVs_back r h]
  simp only [List.length_append]
theorem rdR_cut {r : List V} (h12 : r.length ≤ 12) (h : ∀ x ∈ r, validB x = true ∧ isI64 x.n) (j : Nat) (hj : j < (encR r).length) : rdR ((encR r).take j) = .error 20 := by
  unfold encR at hj ⊢
  by_cases hu : j < (uvarint r.length).length
  · rw [List.take_append_of_le_length (by omega)]
    unfold rdR
    rw [rdU_cut0 _ j (by omega) hu]
  · have e : (uvarint r.length ++ encVs r).take j = uvarint r.length ++ (encVs r).take (j - (uvarint r.length).length) := by
      rw [List.take_append, List.take_of_length_le (by omega)]
    rw [e]
    unfold rdR
    rw [rdU_uvarint _ (by omega)]
    simp only
    rw [if_neg (by omega), List.drop_left, rdVs_cut r h _ (by rw [List.length_append] at hj; omega)]
theorem encR_len {r : List V} (h12 : r.length ≤ 12) (h : ∀ x ∈ r, validB x = true ∧ isI64 x.n) : 1 ≤ (encR r).length ∧ (encR r).length ≤ 1000 := by
  have h1 := Go.Lib.uvarint_length64 (x := r.length) (by omega)
  have h2 := Go.Lib.uvarint_pos r.length
  have h3 := encVs_len h
  unfold encR
  rw [List.length_append]
  omega
end Go.Proofs.Ytekmllanhppiaaa
