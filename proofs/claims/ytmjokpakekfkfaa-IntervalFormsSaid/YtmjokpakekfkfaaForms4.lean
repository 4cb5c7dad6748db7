import Derived.Test.YtmjokpakekfkfaaForms3
/- Intervals in memory; contracts of interval.validPart and interval.separate. -/
set_option linter.unusedSimpArgs false
set_option linter.unusedVariables false
namespace Go.Proofs.Ytmjokpakekfkfaa
open Go.RowKit

/-- The seven cells of an interval. -/
structure IAt (w : World) (b off : Nat) (x : I) : Prop where
  f : At w b off x.f
  t0 : w.cell? ⟨b, off + 3, none⟩ = some (.int .i64 x.t.k)
  t1 : w.cell? ⟨b, off + 4, none⟩ = some (.int .i64 x.t.n)
  t2 : w.cell? ⟨b, off + 5, none⟩ = some (.string x.t.t)
  o : w.cell? ⟨b, off + 6, none⟩ = some (.bool x.o)
structure IvIn (w : World) (b off : Nat) (l : List I) : Prop where
  blk : b < w.heap.size
  at_ : ∀ i (h : i < l.length), IAt w b (off + i * 7) l[i]
/-- A slice value that reads as a list of intervals. -/
def IvAt (w : World) (v : Value) (l : List I) : Prop :=
  ∃ (a : Option Addr) (cap : Nat), v = .slice a l.length cap ∧ l.length ≤ 4398046511104 ∧ (l = [] ∨ ∃ b off, a = some ⟨b, off, none⟩ ∧ IvIn w b off l)
theorem IAt.later {w w' : World} {b off : Nat} {x : I} (h : IAt w b off x) (hb : b < w.heap.size) (hw : Below w.heap.size w w') : IAt w' b off x :=
  ⟨h.f.later hb hw, (hw.cell (p := ⟨b, _, none⟩) hb).trans h.t0, (hw.cell (p := ⟨b, _, none⟩) hb).trans h.t1, (hw.cell (p := ⟨b, _, none⟩) hb).trans h.t2, (hw.cell (p := ⟨b, _, none⟩) hb).trans h.o⟩
theorem IvIn.later {w w' : World} {b off : Nat} {l : List I} (h : IvIn w b off l) (hw : Below w.heap.size w w') : IvIn w' b off l :=
  ⟨Nat.lt_of_lt_of_le h.blk hw.size, fun i hi => (h.at_ i hi).later h.blk hw⟩
theorem IvAt.later {w w' : World} {v : Value} {l : List I} (h : IvAt w v l) (hw : Below w.heap.size w w') : IvAt w' v l := by
  obtain ⟨a, cap, h1, h2, h3⟩ := h
  exact ⟨a, cap, h1, h2, h3.imp id fun ⟨b, off, h4, h5⟩ => ⟨b, off, h4, h5.later hw⟩⟩
/-- A block of an interval's cells. -/
abbrev iObj (x : I) (T : TypeId) : Obj := .cells #[.int .i64 x.f.k, .int .i64 x.f.n, .string x.f.t, .int .i64 x.t.k, .int .i64 x.t.n, .string x.t.t, .bool x.o] T

/-- The cells of a boxed interval, in every world that came of it by growth. -/
theorem box7 (w : World) (x : I) (T : TypeId) (m : Nat) (os : Array Obj) : IAt (Sort.grow ((w.alloc (iObj x T)).drewN m) os) w.heap.size 0 x :=
  ⟨⟨cell_grown (by simp) (by go_simp) m os, cell_grown (by simp) (by go_simp) m os, cell_grown (by simp) (by go_simp) m os⟩, cell_grown (by simp) (by go_simp) m os, cell_grown (by simp) (by go_simp) m os, cell_grown (by simp) (by go_simp) m os, cell_grown (by simp) (by go_simp) m os⟩
theorem eq_zero (k n : Int) (t : ByteArray) : decide ((⟨k, n, t⟩ : V) = ⟨0, 0, ⟨#[]⟩⟩) = decide ((⟨k, n, t⟩ : V) = zV) := rfl
set_option maxHeartbeats 1000000 in
theorem validPart_calls (x : I) (w : World) : Calls Try.prog 36 #[x.val] w fun e w' => e = .returned (.bool (partB x)) ∧ Gro w w' := by
  have mx := mixed
  obtain ⟨⟨fk, fn, ft⟩, ⟨tk, tn, tt⟩, o⟩ := x
  have c0 := fun m os => (box7 w ⟨⟨fk, fn, ft⟩, ⟨tk, tn, tt⟩, o⟩ 57 m os).f.k
  have c1 := fun m os => (box7 w ⟨⟨fk, fn, ft⟩, ⟨tk, tn, tt⟩, o⟩ 57 m os).f.n
  have c2 := fun m os => (box7 w ⟨⟨fk, fn, ft⟩, ⟨tk, tn, tt⟩, o⟩ 57 m os).f.t
  have c3 := fun m os => (box7 w ⟨⟨fk, fn, ft⟩, ⟨tk, tn, tt⟩, o⟩ 57 m os).t0
  have c4 := fun m os => (box7 w ⟨⟨fk, fn, ft⟩, ⟨tk, tn, tt⟩, o⟩ 57 m os).t1
  have c5 := fun m os => (box7 w ⟨⟨fk, fn, ft⟩, ⟨tk, tn, tt⟩, o⟩ 57 m os).t2
  simp only at c0 c1 c2 c3 c4 c5
  have HV1 := Lib.hid (fun w' => wide (valid_calls ⟨fk, fn, ft⟩ w'))
  have HV2 := Lib.hid (fun w' => wide (valid_calls ⟨tk, tn, tt⟩ w'))
  have HCM := Lib.hid (fun w' => wide (compare_calls ⟨fk, fn, ft⟩ ⟨tk, tn, tt⟩ w'))
  obtain ⟨b1, hb1⟩ : ∃ b1, validB ⟨fk, fn, ft⟩ = b1 := ⟨_, rfl⟩
  obtain ⟨b2, hb2⟩ : ∃ b2, validB ⟨tk, tn, tt⟩ = b2 := ⟨_, rfl⟩
  obtain ⟨d, hd⟩ : ∃ d, cmpV ⟨fk, fn, ft⟩ ⟨tk, tn, tt⟩ = d := ⟨_, rfl⟩
  rw [hb1] at HV1
  rw [hb2] at HV2
  rw [hd] at HCM
  cases o
  · have HP : Hid (partB ⟨⟨fk, fn, ft⟩, ⟨tk, tn, tt⟩, false⟩ = (b1 && b2 && decide (d < 0))) := by show _ = _; unfold partB; rw [if_neg (by simp)]; simp only [hb1, hb2, hd]
    clear hb1 hb2 hd
    cases b1
    · go_enter Try.func36, Try.ntmps36
      go_wp2_with (go_at_call 40; refine (HV1.out _).mono ?_; rintro e w' ⟨q, os, rfl, rfl⟩)
      go_ret
      exact ⟨ret_b (by rw [HP.out]; rfl), ((Gro.refl _).alloc _).grown _ _⟩
    · cases b2
      · go_enter Try.func36, Try.ntmps36
        go_wp2_with fail
        refine (HV1.out _).mono ?_
        rintro e w' ⟨q, os, rfl, rfl⟩
        go_wp2_with fail
        refine (HV2.out _).mono ?_
        rintro e w' ⟨q, os, rfl, rfl⟩
        go_wp2
        go_ret
        exact ⟨ret_b (by rw [HP.out]; rfl), ((Gro.refl _).alloc _).grown _ _⟩
      · by_cases hlt : d < 0
        · have hdd : decide (d < 0) = true := by simpa using hlt
          have HDD := Lib.hid hdd
          go_enter Try.func36, Try.ntmps36
          go_wp2_with fail
          refine (HV1.out _).mono ?_
          rintro e w' ⟨q, os, rfl, rfl⟩
          go_wp2_with fail
          refine (HV2.out _).mono ?_
          rintro e w' ⟨q, os, rfl, rfl⟩
          go_wp2_with fail
          refine (HCM.out _).mono ?_
          rintro e w' ⟨q, os, rfl, rfl⟩
          go_wp2
          go_ret
          exact ⟨ret_b (by rw [HP.out, HDD.out]; rfl), ((Gro.refl _).alloc _).grown _ _⟩
        · have hdd : decide (d < 0) = false := by simpa using hlt
          have HDD := Lib.hid hdd
          go_enter Try.func36, Try.ntmps36
          go_wp2_with fail
          refine (HV1.out _).mono ?_
          rintro e w' ⟨q, os, rfl, rfl⟩
          go_wp2_with fail
          refine (HV2.out _).mono ?_
          rintro e w' ⟨q, os, rfl, rfl⟩
          go_wp2_with fail
          refine (HCM.out _).mono ?_
          rintro e w' ⟨q, os, rfl, rfl⟩
          go_wp2
          go_ret
          exact ⟨ret_b (by rw [HP.out, HDD.out]; rfl), ((Gro.refl _).alloc _).grown _ _⟩
  · obtain ⟨bz, hbz⟩ : ∃ bz, decide ((⟨tk, tn, tt⟩ : V) = zV) = bz := ⟨_, rfl⟩
    have HP : Hid (partB ⟨⟨fk, fn, ft⟩, ⟨tk, tn, tt⟩, true⟩ = (b1 && bz)) := by show _ = _; unfold partB; rw [if_pos (by simp)]; simp only [hb1, hbz]
    have he : ∀ w, (binOp .eql 25 (.agg #[.int .i64 tk, .int .i64 tn, .string tt]) (.agg #[.int .i64 0, .int .i64 0, .string ⟨#[]⟩])).run Try.prog w = .ok (.bool bz) w := fun w => by rw [eql_V, eq_zero, hbz]
    clear hb1 hb2 hd hbz
    cases b1
    · go_enter Try.func36, Try.ntmps36
      go_wp2_with (go_at_call 40; refine (HV1.out _).mono ?_; rintro e w' ⟨q, os, rfl, rfl⟩)
      go_ret
      exact ⟨ret_b (by rw [HP.out]; rfl), ((Gro.refl _).alloc _).grown _ _⟩
    · go_enter Try.func36, Try.ntmps36
      go_wp2_with (go_at_call 40; refine (HV1.out _).mono ?_; rintro e w' ⟨q, os, rfl, rfl⟩)
      go_ret
      exact ⟨ret_b (by rw [HP.out]; rfl), ((Gro.refl _).alloc _).grown _ _⟩

set_option maxHeartbeats 1000000 in
theorem separate_calls (x y : I) (w : World) : Calls Try.prog 37 #[x.val, y.val] w fun e w' => e = .returned (.bool (sepB x y)) ∧ Gro w w' := by
  obtain ⟨⟨fk, fn, ft⟩, ⟨tk, tn, tt⟩, o⟩ := x
  obtain ⟨⟨gk, gn, gt⟩, ⟨uk, un, ut⟩, q⟩ := y
  have HCM := Lib.hid (fun w' => wide (compare_calls ⟨tk, tn, tt⟩ ⟨gk, gn, gt⟩ w'))
  obtain ⟨d, hd⟩ : ∃ d, cmpV ⟨tk, tn, tt⟩ ⟨gk, gn, gt⟩ = d := ⟨_, rfl⟩
  rw [hd] at HCM
  have HP : Hid (sepB ⟨⟨fk, fn, ft⟩, ⟨tk, tn, tt⟩, o⟩ ⟨⟨gk, gn, gt⟩, ⟨uk, un, ut⟩, q⟩ = (!o && decide (d < 0))) := by show _ = _; unfold sepB; simp only [hd]
  clear hd
  cases o
  · by_cases hlt : d < 0
    · have HDD : Hid (decide (d < 0) = true) := by show _ = _; simpa using hlt
      go_enter Try.func37, Try.ntmps37
      go_wp2_with fail
      refine (HCM.out _).mono ?_
      rintro e w' ⟨q, os, rfl, rfl⟩
      go_wp2
      go_ret
      exact ⟨ret_b (by rw [HP.out, HDD.out]; rfl), (((Gro.refl _).alloc _).alloc _).grown _ _⟩
    · have HDD : Hid (decide (d < 0) = false) := by show _ = _; simpa using hlt
      go_enter Try.func37, Try.ntmps37
      go_wp2_with fail
      refine (HCM.out _).mono ?_
      rintro e w' ⟨q, os, rfl, rfl⟩
      go_wp2
      go_ret
      exact ⟨ret_b (by rw [HP.out, HDD.out]; rfl), (((Gro.refl _).alloc _).alloc _).grown _ _⟩
  · go_enter Try.func37, Try.ntmps37
    go_wp2
    go_ret
    exact ⟨ret_b (by rw [HP.out]; rfl), ((Gro.refl _).alloc _).alloc _⟩
end Go.Proofs.Ytmjokpakekfkfaa

/- Plain mathematics of the next value: it is valid, it lies above, and no valid value lies between. -/
set_option linter.unusedSimpArgs false
set_option linter.unusedVariables false
namespace Go.Proofs.Ytmjokpakekfkfaa
open Go.RowKit

theorem cmpB_lt {a b : UInt8} : cmpB a b < 0 ↔ a.toNat < b.toNat := by
  unfold cmpB cmpI; split <;> (try split) <;> omega
theorem cmpB_eq {a b : UInt8} : cmpB a b = 0 ↔ a = b := goodB.zero a b
theorem cmpI_lt {a b : Int} : cmpI a b < 0 ↔ a < b := by
  unfold cmpI; split <;> (try split) <;> omega
theorem cmpI_m {a b : Int} : cmpI a b = -1 ↔ a < b := by
  unfold cmpI; split <;> (try split) <;> omega

theorem between_more (l m : List UInt8) (h1 : cmpL cmpB l m < 0) (h2 : cmpL cmpB m (l ++ [0]) < 0) : False := by
  induction l generalizing m with
  | nil =>
    cases m with
    | nil => simp [cmpL] at h1
    | cons b m =>
      simp only [List.nil_append, cmpL] at h2
      split at h2
      · cases m <;> simp [cmpL] at h2
      · have := cmpB_lt.1 h2; simp at this
  | cons a l ih =>
    cases m with
    | nil => simp [cmpL] at h1
    | cons b m =>
      simp only [List.cons_append, cmpL] at h1 h2
      by_cases e : cmpB a b = 0
      · have := cmpB_eq.1 e
        subst this
        rw [if_pos e] at h1 h2
        exact ih m h1 h2
      · have e' : ¬ cmpB b a = 0 := fun h => e (by have := goodB.neg a b; omega)
        rw [if_neg e] at h1
        rw [if_neg e'] at h2
        have := goodB.neg a b
        omega
theorem more_above (l : List UInt8) : cmpL cmpB l (l ++ [0]) = -1 := by
  induction l with
  | nil => rfl
  | cons a l ih => simp only [List.cons_append, cmpL]; rw [if_pos (goodB.self a)]; exact ih
theorem full_top (l m : List UInt8) (h : ∀ x ∈ l, x = 255) (hm : m.length ≤ l.length) : ¬ cmpL cmpB l m < 0 := by
  induction l generalizing m with
  | nil =>
    cases m with
    | nil => simp [cmpL]
    | cons b m => simp at hm
  | cons a l ih =>
    cases m with
    | nil => simp [cmpL]
    | cons b m =>
      simp only [cmpL]
      have ha := h a (by simp)
      subst ha
      split
      · exact ih m (fun x hx => h x (by simp [hx])) (by simpa using hm)
      · intro hlt
        have h1 := cmpB_lt.1 hlt
        have h2 := b.toNat_lt
        simp at h1
        omega
theorem inc_nat {x : UInt8} (h : x ≠ 255) : (x + 1).toNat = x.toNat + 1 := by
  have h1 := x.toNat_lt
  have h2 : x.toNat ≠ 255 := fun e => h (UInt8.toNat_inj.1 (by simpa using e))
  rw [UInt8.toNat_add]
  simp
  omega
theorem between_bump (l m : List UInt8) (i : Nat) (hi : i < l.length) (hne : l.getD i 0 ≠ 255) (hall : ∀ j, i < j → j < l.length → l.getD j 0 = 255) (hm : m.length ≤ l.length)
    (h1 : cmpL cmpB l m < 0) (h2 : cmpL cmpB m (l.take i ++ [l.getD i 0 + 1]) < 0) : False := by
  induction l generalizing m i with
  | nil => simp at hi
  | cons a l ih =>
    cases m with
    | nil => simp [cmpL] at h1
    | cons b m =>
      rcases i with _ | i
      · simp only [List.take_zero, List.nil_append, cmpL] at h1 h2
        have hne' : a ≠ 255 := by simpa using hne
        have hinc := inc_nat hne'
        simp only [List.getD_cons_zero] at h2
        have hb : b.toNat ≤ a.toNat := by
          split at h2
          · cases m <;> simp [cmpL] at h2
          · have := cmpB_lt.1 h2; omega
        split at h1
        · refine full_top l m (fun x hx => ?_) (by simpa using hm) h1
          obtain ⟨j, hj, he⟩ := List.mem_iff_getElem.1 hx
          have := hall (j + 1) (by omega) (by simpa using hj)
          rw [List.getD_cons_succ, List.getD_eq_getElem?_getD, List.getElem?_eq_getElem hj, Option.getD_some, he] at this
          exact this
        · have := cmpB_lt.1 h1; omega
      · simp only [List.take_succ_cons, List.cons_append, cmpL, List.getD_cons_succ] at h1 h2
        by_cases e : cmpB a b = 0
        · have := cmpB_eq.1 e
          subst this
          rw [if_pos e] at h1 h2
          exact ih m i (by simpa using hi) (by simpa using hne) (fun j hj hl => by have := hall (j + 1) (by omega) (by simpa using hl); simpa using this) (by simpa using hm) h1 h2
        · have e' : ¬ cmpB b a = 0 := fun h => e (by have := goodB.neg a b; omega)
          rw [if_neg e] at h1
          rw [if_neg e'] at h2
          have := goodB.neg a b
          omega
theorem bump_above (l : List UInt8) (i : Nat) (hi : i < l.length) (hne : l.getD i 0 ≠ 255) : cmpL cmpB l (l.take i ++ [l.getD i 0 + 1]) = -1 := by
  induction l generalizing i with
  | nil => simp at hi
  | cons a l ih =>
    rcases i with _ | i
    · have hinc := inc_nat (x := a) (by simpa using hne)
      simp only [List.take_zero, List.nil_append, cmpL, List.getD_cons_zero]
      have : cmpB a (a + 1) = -1 := by unfold cmpB; exact cmpI_m.2 (by omega)
      rw [if_neg (by omega), this]
    · simp only [List.take_succ_cons, List.cons_append, cmpL, List.getD_cons_succ]
      rw [if_pos (goodB.self a)]
      exact ih i (by simpa using hi) (by simpa using hne)
theorem lastLow_some {l : List UInt8} {m i : Nat} (h : lastLow l m = some i) : i < m ∧ l.getD i 0 ≠ 255 ∧ ∀ j, i < j → j < m → l.getD j 0 = 255 := by
  induction m with
  | zero => simp [lastLow] at h
  | succ m ih =>
    simp only [lastLow] at h
    split at h
    · obtain ⟨h1, h2, h3⟩ := ih h
      refine ⟨by omega, h2, fun j hj hm => ?_⟩
      by_cases e : j = m
      · subst e; assumption
      · exact h3 j hj (by omega)
    · simp only [Option.some.injEq] at h
      subst h
      exact ⟨by omega, by assumption, fun j hj hm => by omega⟩

theorem toL (s : ByteArray) : s.toList = s.data.toList := ByteArray.toList_eq s
theorem more_list (s : ByteArray) : (more s).toList = s.toList ++ [0] := by
  rw [toL, toL]; simp [more, ByteArray.data_append]
theorem bump_list (s : ByteArray) (i : Nat) (hi : i ≤ s.size) : (bump s i).toList = s.toList.take i ++ [s.toList.getD i 0 + 1] := by
  rw [toL, toL]
  simp [bump, ByteArray.data_append, ByteArray.data_extract]
theorem nextT_spec {s u : ByteArray} (hs : s.size ≤ 64) (h : nextT s = some u) : u.size ≤ 64 ∧ cmpS s u = -1 ∧ ∀ q : ByteArray, q.size ≤ 64 → ¬ (cmpS s q < 0 ∧ cmpS q u < 0) := by
  have hsz : ∀ q : ByteArray, q.toList.length = q.size := fun q => by rw [toL]; simp
  unfold nextT at h
  split at h
  · simp only [Option.some.injEq] at h
    subst h
    refine ⟨by rw [← hsz, more_list]; simp [hsz]; omega, by unfold cmpS; rw [more_list]; exact more_above _, fun q hq ⟨h1, h2⟩ => ?_⟩
    unfold cmpS at h1 h2
    rw [more_list] at h2
    exact between_more _ _ h1 h2
  · obtain ⟨i, hi, rfl⟩ := Option.map_eq_some_iff.1 h
    obtain ⟨h1, h2, h3⟩ := lastLow_some hi
    rw [← toL] at h2 h3
    have hl := hsz s
    refine ⟨by rw [← hsz, bump_list s i (by omega)]; simp; omega, by unfold cmpS; rw [bump_list s i (by omega)]; exact bump_above _ i (by omega) h2, fun q hq ⟨k1, k2⟩ => ?_⟩
    unfold cmpS at k1 k2
    rw [bump_list s i (by omega)] at k2
    exact between_bump _ _ i (by omega) h2 (fun j hj hjl => h3 j hj (by omega)) (by rw [hsz, hsz]; omega) k1 k2

theorem cmpV_lt {a b : V} : cmpV a b < 0 ↔ a.k < b.k ∨ (a.k = b.k ∧ (a.n < b.n ∨ (a.n = b.n ∧ cmpS a.t b.t < 0))) := by
  have hk := goodI.zero a.k b.k
  have hn := goodI.zero a.n b.n
  have lk := @cmpI_lt a.k b.k
  have ln := @cmpI_lt a.n b.n
  unfold cmpV
  split
  · have e1 := hk.1 ‹_›
    split
    · have e2 := hn.1 ‹_›
      constructor
      · intro h; exact Or.inr ⟨e1, Or.inr ⟨e2, h⟩⟩
      · rintro (h | ⟨_, h | ⟨_, h⟩⟩)
        · omega
        · omega
        · exact h
    · have e2 : a.n ≠ b.n := fun h => ‹¬ cmpI a.n b.n = 0› (hn.2 h)
      rw [ln]
      constructor
      · intro h; exact Or.inr ⟨e1, Or.inl h⟩
      · rintro (h | ⟨_, h | ⟨h, _⟩⟩)
        · omega
        · exact h
        · exact absurd h e2
  · have e1 : a.k ≠ b.k := fun h => ‹¬ cmpI a.k b.k = 0› (hk.2 h)
    rw [lk]
    constructor
    · exact Or.inl
    · rintro (h | ⟨h, _⟩)
      · exact h
      · exact absurd h e1
theorem cmpV_m {a b : V} (h : a.k < b.k ∨ (a.k = b.k ∧ (a.n < b.n ∨ (a.n = b.n ∧ cmpS a.t b.t < 0)))) : cmpV a b = -1 := by
  have h1 := cmpV_lt.2 h
  have h2 := goodV.range a b
  omega
theorem not_below_empty (q : ByteArray) : ¬ cmpS q ByteArray.empty < 0 := by
  unfold cmpS
  rw [(empty_iff _).2 rfl]
  cases q.toList <;> simp [cmpL]
theorem not_same (q : ByteArray) : ¬ cmpS q q < 0 := by rw [goodS.self]; omega

theorem next_spec {p u q : V} (hp : p.n ≤ 9223372036854775807) (hq : validB q = true) (hq0 : -9223372036854775808 ≤ q.n) (hq1 : q.n ≤ 9223372036854775807) (h : nextV p = some u) :
    validB u = true ∧ cmpV p u = -1 ∧ ¬ (cmpV p q < 0 ∧ cmpV q u < 0) := by
  by_cases hv : validB p = true
  · have hpv : validP p := by simpa [validB] using hv
    have hqv : validP q := by simpa [validB] using hq
    have hnb := not_below_empty q.t
    have hse := not_same ByteArray.empty
    obtain ⟨k, n, t⟩ := p
    obtain ⟨qk, qn, qt⟩ := q
    rw [cmpV_lt, cmpV_lt]
    simp only [validP] at hpv hqv
    simp only at hp hq0 hq1 hnb
    rcases hpv with ⟨hk | hk, hn, ht⟩ | ⟨hk, hn | hn, ht⟩ | ⟨hk, ht⟩ | ⟨hk, hn, ht⟩
    · subst hk hn ht
      obtain rfl : (⟨2, 0, ByteArray.empty⟩ : V) = u := Option.some.inj h
      refine ⟨rfl, cmpV_m (Or.inl (by decide)), ?_⟩
      simp only
      rintro ⟨h1, h2⟩
      rcases hqv with ⟨hk | hk, hn, ht⟩ | ⟨hk, hn | hn, ht⟩ | ⟨hk, ht⟩ | ⟨hk, hn, ht⟩ <;> first | omega | (subst ht; omega)
    · subst hk hn ht
      obtain rfl : (⟨3, 0, ByteArray.empty⟩ : V) = u := Option.some.inj h
      refine ⟨rfl, cmpV_m (Or.inl (by decide)), ?_⟩
      simp only
      rintro ⟨h1, h2⟩
      rcases hqv with ⟨hk | hk, hn, ht⟩ | ⟨hk, hn | hn, ht⟩ | ⟨hk, ht⟩ | ⟨hk, hn, ht⟩ <;> first | omega | (subst ht; omega)
    · subst hk hn ht
      obtain rfl : (⟨3, 1, ByteArray.empty⟩ : V) = u := Option.some.inj h
      refine ⟨rfl, cmpV_m (Or.inr ⟨rfl, Or.inl (by decide)⟩), ?_⟩
      simp only
      rintro ⟨h1, h2⟩
      rcases hqv with ⟨hk | hk, hn, ht⟩ | ⟨hk, hn | hn, ht⟩ | ⟨hk, ht⟩ | ⟨hk, hn, ht⟩ <;> first | omega | (subst ht; omega)
    · subst hk hn ht
      obtain rfl : (⟨4, -9223372036854775808, ByteArray.empty⟩ : V) = u := Option.some.inj h
      refine ⟨rfl, cmpV_m (Or.inl (by decide)), ?_⟩
      simp only
      rintro ⟨h1, h2⟩
      rcases hqv with ⟨hk | hk, hn, ht⟩ | ⟨hk, hn | hn, ht⟩ | ⟨hk, ht⟩ | ⟨hk, hn, ht⟩ <;> first | omega | (subst ht; omega)
    · subst hk ht
      by_cases hlt : n < 9223372036854775807
      · rw [nextV_int hlt] at h
        obtain rfl : (⟨4, n + 1, ByteArray.empty⟩ : V) = u := Option.some.inj h
        refine ⟨by simp [validB, validP], cmpV_m (Or.inr ⟨rfl, Or.inl (by show n < n + 1; omega)⟩), ?_⟩
        simp only
        rintro ⟨h1, h2⟩
        rcases hqv with ⟨hk | hk, hn, ht⟩ | ⟨hk, hn | hn, ht⟩ | ⟨hk, ht⟩ | ⟨hk, hn, ht⟩ <;> first | omega | (subst ht; omega)
      · rw [nextV_last hlt] at h
        obtain rfl : (⟨5, 0, ByteArray.empty⟩ : V) = u := Option.some.inj h
        refine ⟨rfl, cmpV_m (Or.inl (by show (4 : Int) < 5; decide)), ?_⟩
        simp only
        rintro ⟨h1, h2⟩
        rcases hqv with ⟨hk | hk, hn, ht⟩ | ⟨hk, hn | hn, ht⟩ | ⟨hk, ht⟩ | ⟨hk, hn, ht⟩ <;> first | omega | (subst ht; omega)
    · subst hk hn
      rw [nextV_text hv] at h
      obtain ⟨ut, hut, rfl⟩ := Option.map_eq_some_iff.1 h
      obtain ⟨s1, s2, s3⟩ := nextT_spec ht hut
      refine ⟨by simp [validB, validP, s1], cmpV_m (Or.inr ⟨rfl, Or.inr ⟨rfl, by show cmpS t ut < 0; omega⟩⟩), ?_⟩
      simp only
      rintro ⟨h1, h2⟩
      rcases hqv with ⟨hk | hk, hn, ht'⟩ | ⟨hk, hn | hn, ht'⟩ | ⟨hk, ht'⟩ | ⟨hk, hn, ht'⟩
      · omega
      · omega
      · omega
      · omega
      · omega
      · exact s3 qt ht' ⟨by omega, by omega⟩
  · simp only [Bool.not_eq_true] at hv
    rw [nextV_invalid hv] at h
    simp at h
end Go.Proofs.Ytmjokpakekfkfaa

/- The contracts of the makers of intervals, and of their references. -/
set_option linter.unusedSimpArgs false
set_option linter.unusedVariables false
namespace Go.Proofs.Ytmjokpakekfkfaa
open Go.RowKit

/-- A list of intervals and an error. -/
def MakeOut (l : List I) (err : Int) (w : World) (e : Ending) (w' : World) : Prop := ∃ v, e = .returned (.tuple #[v, .int .i64 err]) ∧ IvAt w' v l ∧ Gro w w'
abbrev vObj (x : V) (T : TypeId) : Obj := .cells #[.int .i64 x.k, .int .i64 x.n, .string x.t] T
theorem iv_new (w : World) (x : I) (T : TypeId) : IvAt (w.alloc (iObj x T)) (.slice (some ⟨w.heap.size, 0, none⟩) 1 1) [x] := by
  refine ⟨_, 1, rfl, by simp, .inr ⟨w.heap.size, 0, rfl, by simp, fun i hi => ?_⟩⟩
  obtain rfl : i = 0 := by simp at hi; omega
  exact ⟨⟨by go_simp, by go_simp, by go_simp⟩, by go_simp, by go_simp, by go_simp, by go_simp⟩
theorem iv_nil (w : World) : IvAt w (.slice none 0 0) [] := ⟨none, 0, rfl, by simp, .inl rfl⟩
theorem make_nil {err : Int} {w w' : World} {u : Value} (hu : u = .tuple #[.slice none 0 0, .int .i64 err]) (h : Gro w w') : MakeOut [] err w (.returned u) w' := by subst hu; exact ⟨_, rfl, iv_nil _, h⟩
theorem make_end {err : Int} {w W : World} {u : Value} {x : I} {T : TypeId} {g : Nat} (hu : u = .tuple #[.slice (some ⟨g, 0, none⟩) 1 1, .int .i64 err]) (hg : g = W.heap.size) (h : Gro w W) : MakeOut [x] err w (.returned u) (W.alloc (iObj x T)) := by
  subst hu hg; exact ⟨_, rfl, iv_new _ _ _, h.alloc _⟩
theorem box_two (w : World) (x y : V) (T : TypeId) (m : Nat) (os : Array Obj) : At (Sort.grow (((w.alloc (vObj x T)).alloc (vObj y T)).drewN m) os) w.heap.size 0 x ∧ At (Sort.grow (((w.alloc (vObj x T)).alloc (vObj y T)).drewN m) os) (w.heap.size + 1) 0 y :=
  ⟨⟨cell_grown (by simp; omega) (by go_simp) m os, cell_grown (by simp; omega) (by go_simp) m os, cell_grown (by simp; omega) (by go_simp) m os⟩, ⟨cell_grown (by simp) (by go_simp) m os, cell_grown (by simp) (by go_simp) m os, cell_grown (by simp) (by go_simp) m os⟩⟩
theorem num_calls (n : Int) (w : World) : Calls Try.prog 47 #[.int .i64 n] w fun e w' => e = .returned (V.val ⟨4, n, ByteArray.empty⟩) ∧ Gro w w' := by
  go_enter Try.func47, Try.ntmps47
  go_wp2
  exact bodyPost_ret (v := V.val ⟨4, n, ByteArray.empty⟩) (by simp [results, Try.results47, go_sem, V.val]; try rfl) rfl ⟨rfl, by repeat (first | exact Gro.refl _ | apply Gro.alloc | apply Gro.drew)⟩

noncomputable def betweenL (f t : V) : List I := if validB f = true ∧ validB t = true ∧ cmpV f t < 0 then [⟨f, t, false⟩] else []
def betweenE (f t : V) : Int := if validB f = true ∧ validB t = true then 0 else 10
def fromL (v : V) : List I := if validB v = true then [⟨v, zV, true⟩] else []
def fromE (v : V) : Int := if validB v = true then 0 else 10
set_option maxHeartbeats 1000000 in
theorem between_calls (x y : V) (w : World) : Calls Try.prog 46 #[x.val, y.val] w (MakeOut (betweenL x y) (betweenE x y) w) := by
  obtain ⟨xk, xn, xt⟩ := x
  obtain ⟨yk, yn, yt⟩ := y
  have c0 := fun m os => (box_two w ⟨xk, xn, xt⟩ ⟨yk, yn, yt⟩ 25 m os).1.k
  have c1 := fun m os => (box_two w ⟨xk, xn, xt⟩ ⟨yk, yn, yt⟩ 25 m os).1.n
  have c2 := fun m os => (box_two w ⟨xk, xn, xt⟩ ⟨yk, yn, yt⟩ 25 m os).1.t
  have d0 := fun m os => (box_two w ⟨xk, xn, xt⟩ ⟨yk, yn, yt⟩ 25 m os).2.k
  have d1 := fun m os => (box_two w ⟨xk, xn, xt⟩ ⟨yk, yn, yt⟩ 25 m os).2.n
  have d2 := fun m os => (box_two w ⟨xk, xn, xt⟩ ⟨yk, yn, yt⟩ 25 m os).2.t
  simp only at c0 c1 c2 d0 d1 d2
  have HV1 := Lib.hid (fun w' => wide (valid_calls ⟨xk, xn, xt⟩ w'))
  have HV2 := Lib.hid (fun w' => wide (valid_calls ⟨yk, yn, yt⟩ w'))
  have HCM := Lib.hid (fun w' => wide (compare_calls ⟨xk, xn, xt⟩ ⟨yk, yn, yt⟩ w'))
  obtain ⟨b1, hb1⟩ : ∃ b1, validB ⟨xk, xn, xt⟩ = b1 := ⟨_, rfl⟩
  obtain ⟨b2, hb2⟩ : ∃ b2, validB ⟨yk, yn, yt⟩ = b2 := ⟨_, rfl⟩
  obtain ⟨d, hd⟩ : ∃ d, cmpV ⟨xk, xn, xt⟩ ⟨yk, yn, yt⟩ = d := ⟨_, rfl⟩
  rw [hb1] at HV1
  rw [hb2] at HV2
  rw [hd] at HCM
  have hg : ∀ n os, Gro w (Sort.grow (((w.alloc (vObj ⟨xk, xn, xt⟩ 25)).alloc (vObj ⟨yk, yn, yt⟩ 25)).drewN n) os) := fun n os => (((Gro.refl _).alloc _).alloc _).grown _ _
  have HG := Lib.hid hg
  cases b1
  · have HL : Hid (betweenL ⟨xk, xn, xt⟩ ⟨yk, yn, yt⟩ = [] ∧ betweenE ⟨xk, xn, xt⟩ ⟨yk, yn, yt⟩ = 10) := by show _ ∧ _; simp [betweenL, betweenE, hb1]
    rw [HL.out.1, HL.out.2]
    clear hb1 hb2 hd hg
    go_enter Try.func46, Try.ntmps46
    go_wp2_with fail
    refine (HV1.out _).mono ?_
    rintro e w' ⟨q1, os1, rfl, rfl⟩
    go_wp2
    go_ret2
    exact make_nil rfl (HG.out _ _)
  cases b2
  · have HL : Hid (betweenL ⟨xk, xn, xt⟩ ⟨yk, yn, yt⟩ = [] ∧ betweenE ⟨xk, xn, xt⟩ ⟨yk, yn, yt⟩ = 10) := by show _ ∧ _; simp [betweenL, betweenE, hb2]
    rw [HL.out.1, HL.out.2]
    clear hb1 hb2 hd hg
    go_enter Try.func46, Try.ntmps46
    go_wp2_with fail
    refine (HV1.out _).mono ?_
    rintro e w' ⟨q1, os1, rfl, rfl⟩
    go_wp2_with fail
    refine (HV2.out _).mono ?_
    rintro e w' ⟨q1, os1, rfl, rfl⟩
    go_wp2
    go_ret2
    exact make_nil rfl (HG.out _ _)
  by_cases hdl : 0 ≤ d
  · have HL : Hid (betweenL ⟨xk, xn, xt⟩ ⟨yk, yn, yt⟩ = [] ∧ betweenE ⟨xk, xn, xt⟩ ⟨yk, yn, yt⟩ = 0) := by show _ ∧ _; simp [betweenL, betweenE, hb1, hb2, hd]; omega
    rw [HL.out.1, HL.out.2]
    clear hb1 hb2 hd hg
    go_enter Try.func46, Try.ntmps46
    go_wp2_with fail
    refine (HV1.out _).mono ?_
    rintro e w' ⟨q1, os1, rfl, rfl⟩
    go_wp2_with fail
    refine (HV2.out _).mono ?_
    rintro e w' ⟨q1, os1, rfl, rfl⟩
    go_wp2_with fail
    refine (HCM.out _).mono ?_
    rintro e w' ⟨q1, os1, rfl, rfl⟩
    go_wp2
    go_ret2
    exact make_nil rfl (HG.out _ _)
  · have HL : Hid (betweenL ⟨xk, xn, xt⟩ ⟨yk, yn, yt⟩ = [⟨⟨xk, xn, xt⟩, ⟨yk, yn, yt⟩, false⟩] ∧ betweenE ⟨xk, xn, xt⟩ ⟨yk, yn, yt⟩ = 0) := by show _ ∧ _; simp [betweenL, betweenE, hb1, hb2, hd]; omega
    rw [HL.out.1, HL.out.2]
    clear hb1 hb2 hd hg
    go_enter Try.func46, Try.ntmps46
    go_wp2_with fail
    refine (HV1.out _).mono ?_
    rintro e w' ⟨q1, os1, rfl, rfl⟩
    go_wp2_with fail
    refine (HV2.out _).mono ?_
    rintro e w' ⟨q1, os1, rfl, rfl⟩
    go_wp2_with fail
    refine (HCM.out _).mono ?_
    rintro e w' ⟨q1, os1, rfl, rfl⟩
    go_wp2
    go_ret2
    exact make_end (x := ⟨⟨xk, xn, xt⟩, ⟨yk, yn, yt⟩, false⟩) rfl (by simp) (HG.out _ _)
set_option maxHeartbeats 1000000 in
theorem refBetween_calls (x y : V) (w : World) : Calls Try.prog 32 #[x.val, y.val] w (MakeOut (betweenL x y) (betweenE x y) w) := by
  obtain ⟨xk, xn, xt⟩ := x
  obtain ⟨yk, yn, yt⟩ := y
  have c0 := fun m os => (box_two w ⟨xk, xn, xt⟩ ⟨yk, yn, yt⟩ 25 m os).1.k
  have c1 := fun m os => (box_two w ⟨xk, xn, xt⟩ ⟨yk, yn, yt⟩ 25 m os).1.n
  have c2 := fun m os => (box_two w ⟨xk, xn, xt⟩ ⟨yk, yn, yt⟩ 25 m os).1.t
  have d0 := fun m os => (box_two w ⟨xk, xn, xt⟩ ⟨yk, yn, yt⟩ 25 m os).2.k
  have d1 := fun m os => (box_two w ⟨xk, xn, xt⟩ ⟨yk, yn, yt⟩ 25 m os).2.n
  have d2 := fun m os => (box_two w ⟨xk, xn, xt⟩ ⟨yk, yn, yt⟩ 25 m os).2.t
  simp only at c0 c1 c2 d0 d1 d2
  have HV1 := Lib.hid (fun w' => wide (refValid_calls ⟨xk, xn, xt⟩ w'))
  have HV2 := Lib.hid (fun w' => wide (refValid_calls ⟨yk, yn, yt⟩ w'))
  have HCM := Lib.hid (fun w' => wide (refCompare_calls ⟨xk, xn, xt⟩ ⟨yk, yn, yt⟩ w'))
  obtain ⟨b1, hb1⟩ : ∃ b1, validB ⟨xk, xn, xt⟩ = b1 := ⟨_, rfl⟩
  obtain ⟨b2, hb2⟩ : ∃ b2, validB ⟨yk, yn, yt⟩ = b2 := ⟨_, rfl⟩
  obtain ⟨d, hd⟩ : ∃ d, cmpV ⟨xk, xn, xt⟩ ⟨yk, yn, yt⟩ = d := ⟨_, rfl⟩
  rw [hb1] at HV1
  rw [hb2] at HV2
  rw [hd] at HCM
  have hg : ∀ n os, Gro w (Sort.grow (((w.alloc (vObj ⟨xk, xn, xt⟩ 25)).alloc (vObj ⟨yk, yn, yt⟩ 25)).drewN n) os) := fun n os => (((Gro.refl _).alloc _).alloc _).grown _ _
  have HG := Lib.hid hg
  cases b1
  · have HL : Hid (betweenL ⟨xk, xn, xt⟩ ⟨yk, yn, yt⟩ = [] ∧ betweenE ⟨xk, xn, xt⟩ ⟨yk, yn, yt⟩ = 10) := by show _ ∧ _; simp [betweenL, betweenE, hb1]
    rw [HL.out.1, HL.out.2]
    clear hb1 hb2 hd hg
    go_enter Try.func32, Try.ntmps32
    go_wp2_with fail
    refine (HV1.out _).mono ?_
    rintro e w' ⟨q1, os1, rfl, rfl⟩
    go_wp2
    go_ret2
    exact make_nil rfl (HG.out _ _)
  cases b2
  · have HL : Hid (betweenL ⟨xk, xn, xt⟩ ⟨yk, yn, yt⟩ = [] ∧ betweenE ⟨xk, xn, xt⟩ ⟨yk, yn, yt⟩ = 10) := by show _ ∧ _; simp [betweenL, betweenE, hb2]
    rw [HL.out.1, HL.out.2]
    clear hb1 hb2 hd hg
    go_enter Try.func32, Try.ntmps32
    go_wp2_with fail
    refine (HV1.out _).mono ?_
    rintro e w' ⟨q1, os1, rfl, rfl⟩
    go_wp2_with fail
    refine (HV2.out _).mono ?_
    rintro e w' ⟨q1, os1, rfl, rfl⟩
    go_wp2
    go_ret2
    exact make_nil rfl (HG.out _ _)
  by_cases hdl : 0 ≤ d
  · have HL : Hid (betweenL ⟨xk, xn, xt⟩ ⟨yk, yn, yt⟩ = [] ∧ betweenE ⟨xk, xn, xt⟩ ⟨yk, yn, yt⟩ = 0) := by show _ ∧ _; simp [betweenL, betweenE, hb1, hb2, hd]; omega
    rw [HL.out.1, HL.out.2]
    clear hb1 hb2 hd hg
    go_enter Try.func32, Try.ntmps32
    go_wp2_with fail
    refine (HV1.out _).mono ?_
    rintro e w' ⟨q1, os1, rfl, rfl⟩
    go_wp2_with fail
    refine (HV2.out _).mono ?_
    rintro e w' ⟨q1, os1, rfl, rfl⟩
    go_wp2_with fail
    refine (HCM.out _).mono ?_
    rintro e w' ⟨q1, os1, rfl, rfl⟩
    go_wp2
    go_ret2
    exact make_nil rfl (HG.out _ _)
  · have HL : Hid (betweenL ⟨xk, xn, xt⟩ ⟨yk, yn, yt⟩ = [⟨⟨xk, xn, xt⟩, ⟨yk, yn, yt⟩, false⟩] ∧ betweenE ⟨xk, xn, xt⟩ ⟨yk, yn, yt⟩ = 0) := by show _ ∧ _; simp [betweenL, betweenE, hb1, hb2, hd]; omega
    rw [HL.out.1, HL.out.2]
    clear hb1 hb2 hd hg
    go_enter Try.func32, Try.ntmps32
    go_wp2_with fail
    refine (HV1.out _).mono ?_
    rintro e w' ⟨q1, os1, rfl, rfl⟩
    go_wp2_with fail
    refine (HV2.out _).mono ?_
    rintro e w' ⟨q1, os1, rfl, rfl⟩
    go_wp2_with fail
    refine (HCM.out _).mono ?_
    rintro e w' ⟨q1, os1, rfl, rfl⟩
    go_wp2
    go_ret2
    exact make_end (x := ⟨⟨xk, xn, xt⟩, ⟨yk, yn, yt⟩, false⟩) rfl (by simp) (HG.out _ _)
theorem refFrom_calls (x : V) (w : World) : Calls Try.prog 30 #[x.val] w (MakeOut (fromL x) (fromE x) w) := by
  obtain ⟨xk, xn, xt⟩ := x
  have c0 := fun m os => (box3 w (.int .i64 xk) (.int .i64 xn) (.string xt) 25 m os).1
  have c1 := fun m os => (box3 w (.int .i64 xk) (.int .i64 xn) (.string xt) 25 m os).2.1
  have c2 := fun m os => (box3 w (.int .i64 xk) (.int .i64 xn) (.string xt) 25 m os).2.2
  have HV1 := Lib.hid (fun w' => wide (refValid_calls ⟨xk, xn, xt⟩ w'))
  obtain ⟨b1, hb1⟩ : ∃ b1, validB ⟨xk, xn, xt⟩ = b1 := ⟨_, rfl⟩
  rw [hb1] at HV1
  cases b1
  · have HL : Hid (fromL ⟨xk, xn, xt⟩ = [] ∧ fromE ⟨xk, xn, xt⟩ = 10) := by show _ ∧ _; simp [fromL, fromE, hb1]
    rw [HL.out.1, HL.out.2]
    clear hb1
    go_enter Try.func30, Try.ntmps30
    go_wp2_with fail
    refine (HV1.out _).mono ?_
    rintro e w' ⟨q1, os1, rfl, rfl⟩
    go_wp2
    go_ret2
    exact make_nil rfl (((Gro.refl _).alloc _).grown _ _)
  · have HL : Hid (fromL ⟨xk, xn, xt⟩ = [⟨⟨xk, xn, xt⟩, zV, true⟩] ∧ fromE ⟨xk, xn, xt⟩ = 0) := by show _ ∧ _; simp [fromL, fromE, hb1]
    rw [HL.out.1, HL.out.2]
    clear hb1
    go_enter Try.func30, Try.ntmps30
    go_wp2_with fail
    refine (HV1.out _).mono ?_
    rintro e w' ⟨q1, os1, rfl, rfl⟩
    go_wp2
    go_ret2
    exact make_end (x := ⟨⟨xk, xn, xt⟩, zV, true⟩) rfl (by simp) (((Gro.refl _).alloc _).grown _ _)
end Go.Proofs.Ytmjokpakekfkfaa
