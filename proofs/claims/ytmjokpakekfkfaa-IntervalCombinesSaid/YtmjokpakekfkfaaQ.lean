/- Plain mathematics of the next value: it is valid, it lies above, and no valid value lies between. -/
import Derived.Test.YtmjokpakekfkfaaA5
set_option linter.unusedSimpArgs false
set_option linter.unusedVariables false
namespace Go.Proofs.Ytmjokpakekfkfaa
open Go.RowKit

theorem cmpB_lt {a b : UInt8} : cmpB a b < 0 ↔ a.toNat < b.toNat := by
  unfold cmpB cmpI; split <;> (try split) <;> omega
theorem cmpB_eq {a b : UInt8} : cmpB a b = 0 ↔ a = b := goodB.zero a b
theorem cmpI_lt {a b : Int} : cmpI a b < 0 ↔ a < b := by
  unfold cmpI; split <;> (try split) <;> omega
theorem cmpI_m {a b : Int} : cmpI a b = -1 ↔ a < b := by
  unfold cmpI; split <;> (try split) <;> omega

theorem between_more (l m : List UInt8) (h1 : cmpL cmpB l m < 0) (h2 : cmpL cmpB m (l ++ [0]) < 0) : False := by
  induction l generalizing m with
  | nil =>
    cases m with
    | nil => simp [cmpL] at h1
    | cons b m =>
      simp only [List.nil_append, cmpL] at h2
      split at h2
      · cases m <;> simp [cmpL] at h2
      · have := cmpB_lt.1 h2; simp at this
  | cons a l ih =>
    cases m with
    | nil => simp [cmpL] at h1
    | cons b m =>
      simp only [List.cons_append, cmpL] at h1 h2
      by_cases e : cmpB a b = 0
      · have := cmpB_eq.1 e
        subst this
        rw [if_pos e] at h1 h2
        exact ih m h1 h2
      · have e' : ¬ cmpB b a = 0 := fun h => e (by have := goodB.neg a b; omega)
        rw [if_neg e] at h1
        rw [if_neg e'] at h2
        have := goodB.neg a b
        omega
theorem more_above (l : List UInt8) : cmpL cmpB l (l ++ [0]) = -1 := by
  induction l with
  | nil => rfl
  | cons a l ih => simp only [List.cons_append, cmpL]; rw [if_pos (goodB.self a)]; exact ih
theorem full_top (l m : List UInt8) (h : ∀ x ∈ l, x = 255) (hm : m.length ≤ l.length) : ¬ cmpL cmpB l m < 0 := by
  induction l generalizing m with
  | nil =>
    cases m with
    | nil => simp [cmpL]
    | cons b m => simp at hm
  | cons a l ih =>
    cases m with
    | nil => simp [cmpL]
    | cons b m =>
      simp only [cmpL]
      have ha := h a (by simp)
      subst ha
      split
      · exact ih m (fun x hx => h x (by simp [hx])) (by simpa using hm)
      · intro hlt
        have h1 := cmpB_lt.1 hlt
        have h2 := b.toNat_lt
        simp at h1
        omega
theorem inc_nat {x : UInt8} (h : x ≠ 255) : (x + 1).toNat = x.toNat + 1 := by
  have h1 := x.toNat_lt
  have h2 : x.toNat ≠ 255 := fun e => h (UInt8.toNat_inj.1 (by simpa using e))
  rw [UInt8.toNat_add]
  simp
  omega
theorem between_bump (l m : List UInt8) (i : Nat) (hi : i < l.length) (hne : l.getD i 0 ≠ 255) (hall : ∀ j, i < j → j < l.length → l.getD j 0 = 255) (hm : m.length ≤ l.length)
    (h1 : cmpL cmpB l m < 0) (h2 : cmpL cmpB m (l.take i ++ [l.getD i 0 + 1]) < 0) : False := by
  induction l generalizing m i with
  | nil => simp at hi
  | cons a l ih =>
    cases m with
    | nil => simp [cmpL] at h1
    | cons b m =>
      rcases i with _ | i
      · simp only [List.take_zero, List.nil_append, cmpL] at h1 h2
        have hne' : a ≠ 255 := by simpa using hne
        have hinc := inc_nat hne'
        simp only [List.getD_cons_zero] at h2
        have hb : b.toNat ≤ a.toNat := by
          split at h2
          · cases m <;> simp [cmpL] at h2
          · have := cmpB_lt.1 h2; omega
        split at h1
        · refine full_top l m (fun x hx => ?_) (by simpa using hm) h1
          obtain ⟨j, hj, he⟩ := List.mem_iff_getElem.1 hx
          have := hall (j + 1) (by omega) (by simpa using hj)
          rw [List.getD_cons_succ, List.getD_eq_getElem?_getD, List.getElem?_eq_getElem hj, Option.getD_some, he] at this
          exact this
        · have := cmpB_lt.1 h1; omega
      · simp only [List.take_succ_cons, List.cons_append, cmpL, List.getD_cons_succ] at h1 h2
        by_cases e : cmpB a b = 0
        · have := cmpB_eq.1 e
          subst this
          rw [if_pos e] at h1 h2
          exact ih m i (by simpa using hi) (by simpa using hne) (fun j hj hl => by have := hall (j + 1) (by omega) (by simpa using hl); simpa using this) (by simpa using hm) h1 h2
        · have e' : ¬ cmpB b a = 0 := fun h => e (by have := goodB.neg a b; omega)
          rw [if_neg e] at h1
          rw [if_neg e'] at h2
          have := goodB.neg a b
          omega
theorem bump_above (l : List UInt8) (i : Nat) (hi : i < l.length) (hne : l.getD i 0 ≠ 255) : cmpL cmpB l (l.take i ++ [l.getD i 0 + 1]) = -1 := by
  induction l generalizing i with
  | nil => simp at hi
  | cons a l ih =>
    rcases i with _ | i
    · have hinc := inc_nat (x := a) (by simpa using hne)
      simp only [List.take_zero, List.nil_append, cmpL, List.getD_cons_zero]
      have : cmpB a (a + 1) = -1 := by unfold cmpB; exact cmpI_m.2 (by omega)
      rw [if_neg (by omega), this]
    · simp only [List.take_succ_cons, List.cons_append, cmpL, List.getD_cons_succ]
      rw [if_pos (goodB.self a)]
      exact ih i (by simpa using hi) (by simpa using hne)
theorem lastLow_some {l : List UInt8} {m i : Nat} (h : lastLow l m = some i) : i < m ∧ l.getD i 0 ≠ 255 ∧ ∀ j, i < j → j < m → l.getD j 0 = 255 := by
  induction m with
  | zero => simp [lastLow] at h
  | succ m ih =>
    simp only [lastLow] at h
    split at h
    · obtain ⟨h1, h2, h3⟩ := ih h
      refine ⟨by omega, h2, fun j hj hm => ?_⟩
      by_cases e : j = m
      · subst e; assumption
      · exact h3 j hj (by omega)
    · simp only [Option.some.injEq] at h
      subst h
      exact ⟨by omega, by assumption, fun j hj hm => by omega⟩

theorem toL (s : ByteArray) : s.toList = s.data.toList := ByteArray.toList_eq s
theorem more_list (s : ByteArray) : (more s).toList = s.toList ++ [0] := by
  rw [toL, toL]; simp [more, ByteArray.data_append]
theorem bump_list (s : ByteArray) (i : Nat) (hi : i ≤ s.size) : (bump s i).toList = s.toList.take i ++ [s.toList.getD i 0 + 1] := by
  rw [toL, toL]
  simp [bump, ByteArray.data_append, ByteArray.data_extract]
theorem nextT_spec {s u : ByteArray} (hs : s.size ≤ 64) (h : nextT s = some u) : u.size ≤ 64 ∧ cmpS s u = -1 ∧ ∀ q : ByteArray, q.size ≤ 64 → ¬ (cmpS s q < 0 ∧ cmpS q u < 0) := by
  have hsz : ∀ q : ByteArray, q.toList.length = q.size := fun q => by rw [toL]; simp
  unfold nextT at h
  split at h
  · simp only [Option.some.injEq] at h
    subst h
    refine ⟨by rw [← hsz, more_list]; simp [hsz]; omega, by unfold cmpS; rw [more_list]; exact more_above _, fun q hq ⟨h1, h2⟩ => ?_⟩
    unfold cmpS at h1 h2
    rw [more_list] at h2
    exact between_more _ _ h1 h2
  · obtain ⟨i, hi, rfl⟩ := Option.map_eq_some_iff.1 h
    obtain ⟨h1, h2, h3⟩ := lastLow_some hi
    rw [← toL] at h2 h3
    have hl := hsz s
    refine ⟨by rw [← hsz, bump_list s i (by omega)]; simp; omega, by unfold cmpS; rw [bump_list s i (by omega)]; exact bump_above _ i (by omega) h2, fun q hq ⟨k1, k2⟩ => ?_⟩
    unfold cmpS at k1 k2
    rw [bump_list s i (by omega)] at k2
    exact between_bump _ _ i (by omega) h2 (fun j hj hjl => h3 j hj (by omega)) (by rw [hsz, hsz]; omega) k1 k2

theorem cmpV_lt {a b : V} : cmpV a b < 0 ↔ a.k < b.k ∨ (a.k = b.k ∧ (a.n < b.n ∨ (a.n = b.n ∧ cmpS a.t b.t < 0))) := by
  have hk := goodI.zero a.k b.k
  have hn := goodI.zero a.n b.n
  have lk := @cmpI_lt a.k b.k
  have ln := @cmpI_lt a.n b.n
  unfold cmpV
  split
  · have e1 := hk.1 ‹_›
    split
    · have e2 := hn.1 ‹_›
      constructor
      · intro h; exact Or.inr ⟨e1, Or.inr ⟨e2, h⟩⟩
      · rintro (h | ⟨_, h | ⟨_, h⟩⟩)
        · omega
        · omega
        · exact h
    · have e2 : a.n ≠ b.n := fun h => ‹¬ cmpI a.n b.n = 0› (hn.2 h)
      rw [ln]
      constructor
      · intro h; exact Or.inr ⟨e1, Or.inl h⟩
      · rintro (h | ⟨_, h | ⟨h, _⟩⟩)
        · omega
        · exact h
        · exact absurd h e2
  · have e1 : a.k ≠ b.k := fun h => ‹¬ cmpI a.k b.k = 0› (hk.2 h)
    rw [lk]
    constructor
    · exact Or.inl
    · rintro (h | ⟨h, _⟩)
      · exact h
      · exact absurd h e1
theorem cmpV_m {a b : V} (h : a.k < b.k ∨ (a.k = b.k ∧ (a.n < b.n ∨ (a.n = b.n ∧ cmpS a.t b.t < 0)))) : cmpV a b = -1 := by
  have h1 := cmpV_lt.2 h
  have h2 := goodV.range a b
  omega
theorem not_below_empty (q : ByteArray) : ¬ cmpS q ByteArray.empty < 0 := by
  unfold cmpS
  rw [(empty_iff _).2 rfl]
  cases q.toList <;> simp [cmpL]
theorem not_same (q : ByteArray) : ¬ cmpS q q < 0 := by rw [goodS.self]; omega

theorem next_spec {p u q : V} (hp : p.n ≤ 9223372036854775807) (hq : validB q = true) (hq0 : -9223372036854775808 ≤ q.n) (hq1 : q.n ≤ 9223372036854775807) (h : nextV p = some u) :
    validB u = true ∧ cmpV p u = -1 ∧ ¬ (cmpV p q < 0 ∧ cmpV q u < 0) := by
  by_cases hv : validB p = true
  · have hpv : validP p := by simpa [validB] using hv
    have hqv : validP q := by simpa [validB] using hq
    have hnb := not_below_empty q.t
    have hse := not_same ByteArray.empty
    obtain ⟨k, n, t⟩ := p
    obtain ⟨qk, qn, qt⟩ := q
    rw [cmpV_lt, cmpV_lt]
    simp only [validP] at hpv hqv
    simp only at hp hq0 hq1 hnb
    rcases hpv with ⟨hk | hk, hn, ht⟩ | ⟨hk, hn | hn, ht⟩ | ⟨hk, ht⟩ | ⟨hk, hn, ht⟩
    · subst hk hn ht
      obtain rfl : (⟨2, 0, ByteArray.empty⟩ : V) = u := Option.some.inj h
      refine ⟨rfl, cmpV_m (Or.inl (by decide)), ?_⟩
      simp only
      rintro ⟨h1, h2⟩
      rcases hqv with ⟨hk | hk, hn, ht⟩ | ⟨hk, hn | hn, ht⟩ | ⟨hk, ht⟩ | ⟨hk, hn, ht⟩ <;> first | omega | (subst ht; omega)
    · subst hk hn ht
      obtain rfl : (⟨3, 0, ByteArray.empty⟩ : V) = u := Option.some.inj h
      refine ⟨rfl, cmpV_m (Or.inl (by decide)), ?_⟩
      simp only
      rintro ⟨h1, h2⟩
      rcases hqv with ⟨hk | hk, hn, ht⟩ | ⟨hk, hn | hn, ht⟩ | ⟨hk, ht⟩ | ⟨hk, hn, ht⟩ <;> first | omega | (subst ht; omega)
    · subst hk hn ht
      obtain rfl : (⟨3, 1, ByteArray.empty⟩ : V) = u := Option.some.inj h
      refine ⟨rfl, cmpV_m (Or.inr ⟨rfl, Or.inl (by decide)⟩), ?_⟩
      simp only
      rintro ⟨h1, h2⟩
      rcases hqv with ⟨hk | hk, hn, ht⟩ | ⟨hk, hn | hn, ht⟩ | ⟨hk, ht⟩ | ⟨hk, hn, ht⟩ <;> first | omega | (subst ht; omega)
    · subst hk hn ht
      obtain rfl : (⟨4, -9223372036854775808, ByteArray.empty⟩ : V) = u := Option.some.inj h
      refine ⟨rfl, cmpV_m (Or.inl (by decide)), ?_⟩
      simp only
      rintro ⟨h1, h2⟩
      rcases hqv with ⟨hk | hk, hn, ht⟩ | ⟨hk, hn | hn, ht⟩ | ⟨hk, ht⟩ | ⟨hk, hn, ht⟩ <;> first | omega | (subst ht; omega)
    · subst hk ht
      by_cases hlt : n < 9223372036854775807
      · rw [nextV_int hlt] at h
        obtain rfl : (⟨4, n + 1, ByteArray.empty⟩ : V) = u := Option.some.inj h
        refine ⟨by simp [validB, validP], cmpV_m (Or.inr ⟨rfl, Or.inl (by show n < n + 1; omega)⟩), ?_⟩
        simp only
        rintro ⟨h1, h2⟩
        rcases hqv with ⟨hk | hk, hn, ht⟩ | ⟨hk, hn | hn, ht⟩ | ⟨hk, ht⟩ | ⟨hk, hn, ht⟩ <;> first | omega | (subst ht; omega)
      · rw [nextV_last hlt] at h
        obtain rfl : (⟨5, 0, ByteArray.empty⟩ : V) = u := Option.some.inj h
        refine ⟨rfl, cmpV_m (Or.inl (by show (4 : Int) < 5; decide)), ?_⟩
        simp only
        rintro ⟨h1, h2⟩
        rcases hqv with ⟨hk | hk, hn, ht⟩ | ⟨hk, hn | hn, ht⟩ | ⟨hk, ht⟩ | ⟨hk, hn, ht⟩ <;> first | omega | (subst ht; omega)
    · subst hk hn
      rw [nextV_text hv] at h
      obtain ⟨ut, hut, rfl⟩ := Option.map_eq_some_iff.1 h
      obtain ⟨s1, s2, s3⟩ := nextT_spec ht hut
      refine ⟨by simp [validB, validP, s1], cmpV_m (Or.inr ⟨rfl, Or.inr ⟨rfl, by show cmpS t ut < 0; omega⟩⟩), ?_⟩
      simp only
      rintro ⟨h1, h2⟩
      rcases hqv with ⟨hk | hk, hn, ht'⟩ | ⟨hk, hn | hn, ht'⟩ | ⟨hk, ht'⟩ | ⟨hk, hn, ht'⟩
      · omega
      · omega
      · omega
      · omega
      · omega
      · exact s3 qt ht' ⟨by omega, by omega⟩
  · simp only [Bool.not_eq_true] at hv
    rw [nextV_invalid hv] at h
    simp at h
end Go.Proofs.Ytmjokpakekfkfaa
