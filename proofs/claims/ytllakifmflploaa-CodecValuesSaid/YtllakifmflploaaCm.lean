/- The plain mathematics of package codec: the encodings of numbers, texts, values and rows, what is read from any bytes, and bit operations. No program is named here. -/
import Derived.Test.YtllakifmflploaaM
import Derived.Lib.Zigzag
import Derived.Lib.VarintMem
import Derived.IntWalk
set_option linter.unusedSimpArgs false
set_option linter.unusedVariables false
namespace Go.Proofs.Ytllakifmflploaa
open Go.RowKit
open Go.Lib (uvarint zigzag)

/-! ## bit operations -/
theorem xor_i64 (a b : Int) : bits .xor .i64 a b = IntKind.i64.wrap ((BitVec.ofInt 64 a ^^^ BitVec.ofInt 64 b).toNat : Int) := rfl
theorem xor_u64 (a b : Int) : bits .xor .u64 a b = IntKind.u64.wrap ((BitVec.ofInt 64 a ^^^ BitVec.ofInt 64 b).toNat : Int) := rfl
theorem ofInt_toNat (a : Int) : ((BitVec.ofInt 64 a).toNat : Int) = a % 18446744073709551616 := by
  rw [BitVec.toNat_ofInt]
  omega
theorem xor_i64_zero (a : Int) : bits .xor .i64 a 0 = IntKind.i64.wrap a := by
  rw [xor_i64]
  have h : BitVec.ofInt 64 0 = 0#64 := by decide
  rw [h, BitVec.xor_zero, ofInt_toNat, IntKind.wrap_i64, IntKind.wrap_i64]
  omega
theorem ones64 : BitVec.ofInt 64 (-1) = BitVec.allOnes 64 := by decide
theorem xor_i64_ones (a : Int) : bits .xor .i64 a (-1) = IntKind.i64.wrap (-1 - a) := by
  rw [xor_i64, ones64, BitVec.xor_allOnes, BitVec.toNat_not]
  have h := ofInt_toNat a
  have hl := (BitVec.ofInt 64 a).isLt
  rw [IntKind.wrap_i64, IntKind.wrap_i64]
  omega
theorem xor_u64_zero (a : Int) : bits .xor .u64 a 0 = IntKind.u64.wrap a := by
  rw [xor_u64]
  have h : BitVec.ofInt 64 0 = 0#64 := by decide
  rw [h, BitVec.xor_zero, ofInt_toNat, IntKind.wrap_u64, IntKind.wrap_u64]
  omega
theorem xor_u64_ones (a : Int) : bits .xor .u64 a 18446744073709551615 = IntKind.u64.wrap (-1 - a) := by
  have e : BitVec.ofInt 64 18446744073709551615 = BitVec.allOnes 64 := by decide
  rw [xor_u64, e, BitVec.xor_allOnes, BitVec.toNat_not]
  have h := ofInt_toNat a
  have hl := (BitVec.ofInt 64 a).isLt
  rw [IntKind.wrap_u64, IntKind.wrap_u64]
  omega
/-- 'uint64(n<<1 ^ n>>63)' -/
theorem zig_code (x : Int) (h0 : -9223372036854775808 ≤ x) (h1 : x ≤ 9223372036854775807) : IntKind.u64.wrap (bits .xor .i64 (IntKind.i64.wrap (x * 2)) (x / 9223372036854775808)) = (zigzag x : Int) := by
  unfold zigzag
  by_cases h : 0 ≤ x
  · have e : x / 9223372036854775808 = 0 := by omega
    rw [e, xor_i64_zero, if_pos h, IntKind.wrap_i64, IntKind.wrap_i64, IntKind.wrap_u64]
    omega
  · have e : x / 9223372036854775808 = -1 := by omega
    rw [e, xor_i64_ones, if_neg h, IntKind.wrap_i64, IntKind.wrap_i64, IntKind.wrap_u64]
    omega
/-- 'uint64(n)<<1 ^ uint64(n>>63)' -/
theorem zig_ref (x : Int) (h0 : -9223372036854775808 ≤ x) (h1 : x ≤ 9223372036854775807) : bits .xor .u64 (IntKind.u64.wrap (IntKind.u64.wrap x * 2)) (IntKind.u64.wrap (x / 9223372036854775808)) = (zigzag x : Int) := by
  unfold zigzag
  by_cases h : 0 ≤ x
  · have e : x / 9223372036854775808 = 0 := by omega
    have e2 : IntKind.u64.wrap 0 = 0 := by decide
    rw [e, e2, xor_u64_zero, if_pos h, IntKind.wrap_u64, IntKind.wrap_u64, IntKind.wrap_u64]
    omega
  · have e : x / 9223372036854775808 = -1 := by omega
    have e2 : IntKind.u64.wrap (-1) = 18446744073709551615 := by decide
    rw [e, e2, xor_u64_ones, if_neg h, IntKind.wrap_u64, IntKind.wrap_u64, IntKind.wrap_u64]
    omega
/-- The number whose zig-zag is n. -/
def unzig (n : Nat) : Int := if n % 2 = 0 then (n : Int) / 2 else -1 - (n : Int) / 2
theorem unzig_zigzag (x : Int) : unzig (zigzag x) = x := by
  unfold unzig zigzag
  by_cases h : 0 ≤ x
  · rw [if_pos h, if_pos (by omega)]; omega
  · rw [if_neg h, if_neg (by omega)]; omega
theorem zigzag_unzig (n : Nat) : zigzag (unzig n) = n := by
  unfold unzig zigzag
  by_cases h : n % 2 = 0
  · rw [if_pos h, if_pos (by omega)]; omega
  · rw [if_neg h, if_neg (by omega)]; omega
theorem unzig_range (n : Nat) (h : n < 18446744073709551616) : -9223372036854775808 ≤ unzig n ∧ unzig n ≤ 9223372036854775807 := by
  unfold unzig
  split <;> omega
theorem and_u64_one (n : Nat) (h : n < 18446744073709551616) : bits .and .u64 (n : Int) 1 = (n : Int) % 2 := Go.Lib.u64_and1 _ (by omega) (by omega)
/-- 'int64(n>>1) ^ -int64(n&1)' -/
theorem unzig_code (n : Nat) (h : n < 18446744073709551616) : bits .xor .i64 ((n : Int) / 2) (-((n : Int) % 2)) = unzig n := by
  unfold unzig
  by_cases h2 : n % 2 = 0
  · have e : (n : Int) % 2 = 0 := by omega
    rw [e, if_pos h2, Int.neg_zero, xor_i64_zero, IntKind.wrap_i64]; omega
  · have e : (n : Int) % 2 = 1 := by omega
    rw [e, if_neg h2, xor_i64_ones, IntKind.wrap_i64]; omega
theorem xor_ones_i64 (a : Int) : bits .xor .i64 (-1) a = IntKind.i64.wrap (-1 - a) := by
  rw [← xor_i64_ones, xor_i64, xor_i64, BitVec.xor_comm]
theorem and_u64_127 (n : Nat) (h : n < 18446744073709551616) : bits .and .u64 (n : Int) 127 = ((n % 128 : Nat) : Int) := by
  have := bits_mask .u64 64 (by decide) wraps_u64 7 (by decide) (n : Int) (by omega) (by omega)
  simp at this
  rw [this]
  omega
theorem or_u64_128 (n : Nat) (h : n < 128) : bits .or .u64 (n : Int) 128 = ((n + 128 : Nat) : Int) := by
  have h2 := (bits_nat .u64 64 (by decide) wraps_u64 n 128 (by omega) (by decide)).2
  have e : ((128 : Nat) : Int) = 128 := rfl
  rw [e] at h2
  rw [h2]
  have h3 := Go.Lib.or128_nat ⟨n, by omega⟩
  simp only at h3
  rw [h3, Nat.mod_eq_of_lt h]
theorem and_u8_127 (n : Nat) (h : n < 256) : bits .and .u8 (n : Int) 127 = ((n % 128 : Nat) : Int) := by
  have := bits_mask .u8 8 (by decide) wraps_u8 7 (by decide) (n : Int) (by omega) (by omega)
  simp at this
  rw [this]
  omega
set_option maxRecDepth 100000 in
theorem and128_nat : ∀ a : Fin 256, (a.val &&& 128) = if a.val < 128 then 0 else 128 := by decide
theorem and_u8_128 (n : Nat) (h : n < 256) : bits .and .u8 (n : Int) 128 = if n < 128 then 0 else 128 := by
  have h2 := (bits_nat .u8 8 (by decide) wraps_u8 n 128 (by omega) (by decide)).1
  have e : ((128 : Nat) : Int) = 128 := rfl
  rw [e] at h2
  rw [h2]
  have h3 := and128_nat ⟨n, h⟩
  simp only at h3
  rw [h3]
  split <;> rfl
/-- 'n | c<<(7*i)' where n is below 2^(7*i) -/
theorem or_u64_shift (a c i : Nat) (ha : a < 2 ^ (7 * i)) (hi : i ≤ 9) (hc : c * 2 ^ (7 * i) < 18446744073709551616) : bits .or .u64 (a : Int) ((c * 2 ^ (7 * i) : Nat) : Int) = ((a + c * 2 ^ (7 * i) : Nat) : Int) := by
  have hp : 2 ^ (7 * i) ≤ 2 ^ 63 := Nat.pow_le_pow_right (by decide) (by omega)
  have h2 := (bits_nat .u64 64 (by decide) wraps_u64 a (c * 2 ^ (7 * i)) (by omega) (by omega)).2
  rw [h2]
  congr 1
  rw [Nat.or_comm, Nat.mul_comm c, ← Nat.two_pow_add_eq_or_of_lt ha c, Nat.add_comm]

/-! ## reading -/
/-- What is read of a number from its i-th byte on: the number and how many bytes it has, or the error (20: the bytes end; 21: no encoding). -/
def rdU (i acc : Nat) : List UInt8 → Except Int (Nat × Nat)
  | [] => .error 20
  | c :: l => if (c.toNat = 0 ∧ 0 < i) ∨ (1 < c.toNat ∧ 9 ≤ i) then .error 21 else if c.toNat < 128 then .ok (acc + c.toNat * 2 ^ (7 * i), i + 1) else rdU (i + 1) (acc + (c.toNat % 128) * 2 ^ (7 * i)) l
theorem rdU_bounds : ∀ (l : List UInt8) (i acc : Nat), acc < 2 ^ (7 * i) → i ≤ 9 → ∀ n k, rdU i acc l = .ok (n, k) → n < 18446744073709551616 ∧ i < k ∧ k ≤ i + l.length ∧ k ≤ 10 := by
  intro l
  induction l with
  | nil => intro i acc _ _ n k h; simp [rdU] at h
  | cons c l ih =>
    intro i acc ha hi n k h
    rw [rdU] at h
    split at h
    · cases h
    · rename_i hc
      have hc256 : c.toNat < 256 := c.toNat_lt
      split at h
      · rename_i h128
        simp only [Except.ok.injEq, Prod.mk.injEq] at h
        obtain ⟨rfl, rfl⟩ := h
        refine ⟨?_, by omega, by simp, by omega⟩
        by_cases h9 : i = 9
        · subst h9
          have : c.toNat ≤ 1 := by omega
          have e : 2 ^ (7 * 9) = 9223372036854775808 := by decide
          rw [e] at ha ⊢
          omega
        · have hp : 2 ^ (7 * i) ≤ 2 ^ 56 := Nat.pow_le_pow_right (by decide) (by omega)
          have : c.toNat * 2 ^ (7 * i) ≤ 127 * 2 ^ 56 := Nat.mul_le_mul (by omega) hp
          omega
      · rename_i h128
        have h9 : i < 9 := by omega
        have hn : acc + c.toNat % 128 * 2 ^ (7 * i) < 2 ^ (7 * (i + 1)) := by
          have : c.toNat % 128 * 2 ^ (7 * i) ≤ 127 * 2 ^ (7 * i) := Nat.mul_le_mul_right _ (by omega)
          rw [show 7 * (i + 1) = 7 * i + 7 by omega, Nat.pow_add]
          omega
        obtain ⟨h1, h2, h3, h4⟩ := ih (i + 1) _ hn (by omega) n k h
        exact ⟨h1, by omega, by simp; omega, h4⟩
theorem rdU_acc (i acc c : Nat) (ha : acc < 2 ^ (7 * i)) : acc + c % 128 * 2 ^ (7 * i) < 2 ^ (7 * (i + 1)) := by
  have : c % 128 * 2 ^ (7 * i) ≤ 127 * 2 ^ (7 * i) := Nat.mul_le_mul_right _ (by omega)
  rw [show 7 * (i + 1) = 7 * i + 7 by omega, Nat.pow_add]
  omega
theorem rdU_err : ∀ (l : List UInt8) (i acc : Nat) (e : Int), rdU i acc l = .error e → e = 20 ∨ e = 21 := by
  intro l
  induction l with
  | nil => intro i acc e h; simp [rdU] at h; omega
  | cons c l ih =>
    intro i acc e h
    rw [rdU] at h
    split at h
    · simp at h; omega
    · split at h
      · cases h
      · exact ih _ _ _ h
/-- What was written is read back. -/
theorem rdU_back : ∀ (m n i acc : Nat) (rest : List UInt8), n ≤ m → i ≤ 9 → n * 2 ^ (7 * i) < 18446744073709551616 → (n = 0 → i = 0) → rdU i acc (uvarint n ++ rest) = .ok (acc + n * 2 ^ (7 * i), i + (uvarint n).length) := by
  intro m
  induction m with
  | zero =>
    intro n i acc rest hm hi hn h0
    obtain rfl : n = 0 := by omega
    obtain rfl := h0 rfl
    rw [Go.Lib.uvarint_small (by omega)]
    simp [rdU]
  | succ m ih =>
    intro n i acc rest hm hi hn h0
    by_cases h : n < 128
    · have hb := Go.Lib.toUInt8_toNat (show n < 256 by omega)
      have h9 : ¬ (1 < n ∧ 9 ≤ i) := by
        rintro ⟨h1, h2⟩
        obtain rfl : i = 9 := by omega
        have e : 2 ^ (7 * 9) = 9223372036854775808 := by decide
        rw [e] at hn
        omega
      have h00 : ¬ (n = 0 ∧ 0 < i) := by rintro ⟨h1, h2⟩; have := h0 h1; omega
      rw [Go.Lib.uvarint_small h, List.singleton_append, rdU, hb, if_neg (by omega), if_pos h]
      rfl
    · have hb := Go.Lib.toUInt8_toNat (show n % 128 + 128 < 256 by omega)
      have h9 : i < 9 := by
        by_cases e9 : i = 9
        · subst e9
          have e : 2 ^ (7 * 9) = 9223372036854775808 := by decide
          rw [e] at hn
          omega
        · omega
      rw [Go.Lib.uvarint_big (by omega), List.cons_append, rdU, hb, if_neg (by omega), if_neg (by omega), ih (n / 128) (i + 1) _ rest (by omega) (by omega) ?_ (by omega)]
      · have e1 : (n % 128 + 128) % 128 = n % 128 := by omega
        have e2 : 2 ^ (7 * (i + 1)) = 2 ^ (7 * i) * 128 := by rw [show 7 * (i + 1) = 7 * i + 7 by omega, Nat.pow_add]
        have e3 : n * 2 ^ (7 * i) = (n % 128) * 2 ^ (7 * i) + (n / 128) * (2 ^ (7 * i) * 128) := by
          rw [Nat.mul_comm (2 ^ (7 * i)) 128, ← Nat.mul_assoc, ← Nat.add_mul]
          congr 1
          omega
        rw [e1, e2, e3]
        simp
        omega
      · have e2 : 2 ^ (7 * (i + 1)) = 2 ^ (7 * i) * 128 := by rw [show 7 * (i + 1) = 7 * i + 7 by omega, Nat.pow_add]
        rw [e2, Nat.mul_comm (2 ^ (7 * i)) 128, ← Nat.mul_assoc]
        exact Nat.lt_of_le_of_lt (Nat.mul_le_mul_right _ (by omega)) hn
theorem rdU_uvarint (n : Nat) (h : n < 18446744073709551616) (rest : List UInt8) : rdU 0 0 (uvarint n ++ rest) = .ok (n, (uvarint n).length) := by
  rw [rdU_back n n 0 0 rest (Nat.le_refl _) (by omega) (by simpa using h) (fun _ => rfl)]
  simp
/-- What is read is written as the bytes from which it was read. -/
theorem rdU_one : ∀ (l : List UInt8) (i acc : Nat), acc < 2 ^ (7 * i) → i ≤ 9 → ∀ n k, rdU i acc l = .ok (n, k) → ∃ m, n = acc + m * 2 ^ (7 * i) ∧ uvarint m = l.take (k - i) ∧ (m = 0 → i = 0) := by
  intro l
  induction l with
  | nil => intro i acc _ _ n k h; simp [rdU] at h
  | cons c l ih =>
    intro i acc ha hi n k h
    rw [rdU] at h
    split at h
    · cases h
    · rename_i hc
      have hc256 : c.toNat < 256 := c.toNat_lt
      split at h
      · rename_i h128
        simp only [Except.ok.injEq, Prod.mk.injEq] at h
        obtain ⟨rfl, rfl⟩ := h
        refine ⟨c.toNat, rfl, ?_, fun h0 => by omega⟩
        rw [Go.Lib.uvarint_small h128, Nat.add_sub_cancel_left]
        simp [Nat.toUInt8]
      · rename_i h128
        have h9 : i < 9 := by omega
        have hb := rdU_bounds l (i + 1) _ (rdU_acc i acc c.toNat ha) (by omega) n k h
        obtain ⟨m, h1, h2, h3⟩ := ih (i + 1) _ (rdU_acc i acc c.toNat ha) (by omega) n k h
        have hm0 : m ≠ 0 := fun e => by have := h3 e; omega
        have e2 : 2 ^ (7 * (i + 1)) = 2 ^ (7 * i) * 128 := by rw [show 7 * (i + 1) = 7 * i + 7 by omega, Nat.pow_add]
        refine ⟨c.toNat % 128 + m * 128, ?_, ?_, fun h0 => by omega⟩
        · rw [h1, e2, Nat.add_mul, Nat.mul_assoc m, Nat.mul_comm 128 (2 ^ (7 * i))]; omega
        · rw [Go.Lib.uvarint_big (by omega), show k - i = (k - (i + 1)) + 1 by omega, List.take_succ_cons, ← h2]
          congr 1
          · have e4 : (c.toNat % 128 + m * 128) % 128 + 128 = c.toNat := by omega
            rw [e4]; simp [Nat.toUInt8]
          · congr 1; omega
theorem rdU_writes {l : List UInt8} {n k : Nat} (h : rdU 0 0 l = .ok (n, k)) : uvarint n = l.take k := by
  obtain ⟨m, h1, h2, -⟩ := rdU_one l 0 0 (by simp) (by omega) n k h
  have : n = m := by simpa using h1
  rw [this, h2]
  rfl
/-- A proper beginning of a number. -/
theorem rdU_cut : ∀ (m n i acc k : Nat), n ≤ m → i ≤ 9 → n * 2 ^ (7 * i) < 18446744073709551616 → (n = 0 → i = 0) → k < (uvarint n).length → rdU i acc ((uvarint n).take k) = .error 20 := by
  intro m
  induction m with
  | zero =>
    intro n i acc k hm hi hn h0 hk
    obtain rfl : n = 0 := by omega
    rw [Go.Lib.uvarint_small (by omega)] at hk ⊢
    obtain rfl : k = 0 := by simpa using hk
    rfl
  | succ m ih =>
    intro n i acc k hm hi hn h0 hk
    rcases k with _ | k
    · rfl
    · by_cases h : n < 128
      · rw [Go.Lib.uvarint_small h] at hk; simp at hk
      · have hb := Go.Lib.toUInt8_toNat (show n % 128 + 128 < 256 by omega)
        have h9 : i < 9 := by
          by_cases e9 : i = 9
          · subst e9
            have e : 2 ^ (7 * 9) = 9223372036854775808 := by decide
            rw [e] at hn
            omega
          · omega
        rw [Go.Lib.uvarint_big (by omega)] at hk ⊢
        rw [List.take_succ_cons, rdU, hb, if_neg (by omega), if_neg (by omega)]
        refine ih (n / 128) (i + 1) _ k (by omega) (by omega) ?_ (by omega) (by simpa using hk)
        have e2 : 2 ^ (7 * (i + 1)) = 2 ^ (7 * i) * 128 := by rw [show 7 * (i + 1) = 7 * i + 7 by omega, Nat.pow_add]
        rw [e2, Nat.mul_comm (2 ^ (7 * i)) 128, ← Nat.mul_assoc]
        exact Nat.lt_of_le_of_lt (Nat.mul_le_mul_right _ (by omega)) hn

/-! ## texts, values, rows -/
def encT (t : ByteArray) : List UInt8 := uvarint t.size ++ t.data.toList
def encV (v : V) : List UInt8 := v.k.toNat.toUInt8 :: (if v.k = 3 then [v.n.toNat.toUInt8] else if v.k = 4 then uvarint (zigzag v.n) else if v.k = 5 then encT v.t else [])
def encVs : List V → List UInt8
  | [] => []
  | v :: r => encV v ++ encVs r
def encR (r : List V) : List UInt8 := uvarint r.length ++ encVs r

def rdT (most : Nat) (l : List UInt8) : Except Int (ByteArray × Nat) :=
  match rdU 0 0 l with
  | .error e => .error e
  | .ok (n, k) => if most < n then .error 2 else if (l.drop k).length < n then .error 20 else .ok (⟨((l.drop k).take n).toArray⟩, k + n)
def rdV : List UInt8 → Except Int (V × Nat)
  | [] => .error 20
  | c :: l =>
    if c.toNat = 1 ∨ c.toNat = 2 then .ok (⟨c.toNat, 0, ⟨#[]⟩⟩, 1)
    else if c.toNat = 3 then
      match l with
      | [] => .error 20
      | b :: _ => if b.toNat ≤ 1 then .ok (⟨3, b.toNat, ⟨#[]⟩⟩, 2) else .error 21
    else if c.toNat = 4 then
      match rdU 0 0 l with
      | .error e => .error e
      | .ok (n, k) => .ok (⟨4, unzig n, ⟨#[]⟩⟩, 1 + k)
    else if c.toNat = 5 then
      match rdT 64 l with
      | .error e => .error e
      | .ok (t, k) => .ok (⟨5, 0, t⟩, 1 + k)
    else .error 21
/-- n values, one behind the other. -/
def rdVs : Nat → List UInt8 → Except Int (List V × Nat)
  | 0, _ => .ok ([], 0)
  | n + 1, l =>
    match rdV l with
    | .error e => .error e
    | .ok (v, k) =>
      match rdVs n (l.drop k) with
      | .error e => .error e
      | .ok (r, j) => .ok (v :: r, k + j)
def rdR (l : List UInt8) : Except Int (List V × Nat) :=
  match rdU 0 0 l with
  | .error e => .error e
  | .ok (n, k) => if 12 < n then .error 2 else
    match rdVs n (l.drop k) with
    | .error e => .error e
    | .ok (r, j) => .ok (r, k + j)
end Go.Proofs.Ytllakifmflploaa
