/- The columns of a predicate: sorting and compacting them is adding them one by one to an ascending list. -/
import Derived.Test.YtndnlmpmloiiiaaDoorPx
import Derived.Test.YtndnlmpmloiiiaaDoorPg
import Derived.Deep.RegionHeld3
set_option linter.unusedSimpArgs false
set_option linter.unusedVariables false
namespace Go.Proofs.YtndnlmpmloiiiaaDoor
open Go.RowKit

/-- What the reference's Add answers. -/
def addI : List Int → Int → List Int
  | [], n => [n]
  | x :: l, n => if x < n then x :: addI l n else if x = n then x :: l else n :: x :: l
theorem addI_mem : ∀ (l : List Int) (n m : Int), m ∈ addI l n ↔ m = n ∨ m ∈ l
  | [], n, m => by simp [addI]
  | x :: l, n, m => by
    rw [addI]
    split
    · rw [List.mem_cons, addI_mem l n m, List.mem_cons]
      constructor
      · rintro (h | h | h)
        · exact .inr (.inl h)
        · exact .inl h
        · exact .inr (.inr h)
      · rintro (h | h | h)
        · exact .inr (.inl h)
        · exact .inl h
        · exact .inr (.inr h)
    · split
      · rename_i h1 h2
        subst h2
        simp
      · simp
theorem addI_asc : ∀ (l : List Int) (n : Int), l.Pairwise (· < ·) → (addI l n).Pairwise (· < ·)
  | [], n, _ => by simp [addI]
  | x :: l, n, h => by
    obtain ⟨h1, h2⟩ := List.pairwise_cons.1 h
    rw [addI]
    split
    · rename_i hx
      refine List.pairwise_cons.2 ⟨fun m hm => ?_, addI_asc l n h2⟩
      rcases (addI_mem l n m).1 hm with rfl | hm
      · exact hx
      · exact h1 m hm
    · split
      · exact h
      · rename_i h3 h4
        refine List.pairwise_cons.2 ⟨fun m hm => ?_, h⟩
        rcases List.mem_cons.1 hm with rfl | hm
        · omega
        · have := h1 m hm; omega
theorem foldl_mem : ∀ (C l : List Int) (m : Int), m ∈ C.foldl addI l ↔ m ∈ l ∨ m ∈ C
  | [], l, m => by simp
  | n :: C, l, m => by
    rw [List.foldl_cons, foldl_mem C (addI l n) m, addI_mem, List.mem_cons]
    constructor
    · rintro ((h | h) | h)
      · exact .inr (.inl h)
      · exact .inl h
      · exact .inr (.inr h)
    · rintro (h | h | h)
      · exact .inl (.inr h)
      · exact .inl (.inl h)
      · exact .inr h
theorem foldl_asc : ∀ (C l : List Int), l.Pairwise (· < ·) → (C.foldl addI l).Pairwise (· < ·)
  | [], l, h => h
  | n :: C, l, h => foldl_asc C (addI l n) (addI_asc l n h)
theorem asc_unique : ∀ {a b : List Int}, a.Pairwise (· < ·) → b.Pairwise (· < ·) → (∀ m, m ∈ a ↔ m ∈ b) → a = b
  | [], [], _, _, _ => rfl
  | [], y :: b, _, _, h => by have := (h y).2 (by simp); simp at this
  | x :: a, [], _, _, h => by have := (h x).1 (by simp); simp at this
  | x :: a, y :: b, ha, hb, h => by
    obtain ⟨a1, a2⟩ := List.pairwise_cons.1 ha
    obtain ⟨b1, b2⟩ := List.pairwise_cons.1 hb
    have hxy : x = y := by
      have h1 := (h x).1 (by simp)
      have h2 := (h y).2 (by simp)
      rcases List.mem_cons.1 h1 with h1 | h1
      · exact h1
      · rcases List.mem_cons.1 h2 with h2 | h2
        · exact h2.symm
        · have := a1 y h2; have := b1 x h1; omega
    subst hxy
    rw [asc_unique a2 b2 fun m => ?_]
    constructor
    · intro hm
      rcases List.mem_cons.1 ((h m).1 (by simp [hm])) with h1 | h1
      · have := a1 m hm; omega
      · exact h1
    · intro hm
      rcases List.mem_cons.1 ((h m).2 (by simp [hm])) with h1 | h1
      · have := b1 m hm; omega
      · exact h1
theorem compact_up (d : Array Int) : ∀ m, m ≤ d.size → (∀ i j, i < j → j < d.size → d[i]! ≤ d[j]!) →
    (Lib.compactUpTo d m).Pairwise (· < ·) ∧ (∀ x, x ∈ Lib.compactUpTo d m ↔ ∃ j, j < m ∧ d[j]! = x)
  | 0, _, _ => by
    have e : Lib.compactUpTo d 0 = [] := by simp [Lib.compactUpTo]
    rw [e]; simp
  | m + 1, hm, hs => by
    obtain ⟨h1, h2⟩ := compact_up d m (by omega) hs
    rw [Lib.compactUpTo_succ]
    by_cases hk : Lib.keeps d m = true
    · rw [if_pos hk]
      have hlt : ∀ x ∈ Lib.compactUpTo d m, x < d[m]! := by
        intro x hx
        obtain ⟨j, hj, rfl⟩ := (h2 x).1 hx
        have h3 := hs j m hj (by omega)
        have h4 := hs (m - 1) m (by omega) (by omega)
        have h5 : d[m]! ≠ d[m - 1]! := by
          unfold Lib.keeps at hk
          simp at hk
          rcases hk with h | h
          · omega
          · exact h
        have h6 : d[j]! ≤ d[m - 1]! := by
          by_cases e : j = m - 1
          · rw [e]; exact Int.le_refl _
          · exact hs j (m - 1) (by omega) (by omega)
        omega
      refine ⟨List.pairwise_append.2 ⟨h1, by simp, fun x hx y hy => by simp at hy; subst hy; exact hlt x hx⟩, fun x => ?_⟩
      rw [List.mem_append, h2 x, List.mem_singleton]
      constructor
      · rintro (⟨j, hj, e⟩ | e)
        · exact ⟨j, by omega, e⟩
        · exact ⟨m, by omega, e.symm⟩
      · rintro ⟨j, hj, e⟩
        by_cases ej : j = m
        · subst ej; exact .inr e.symm
        · exact .inl ⟨j, by omega, e⟩
    · rw [if_neg hk, List.append_nil]
      refine ⟨h1, fun x => ?_⟩
      rw [h2 x]
      have hm0 : m ≠ 0 ∧ d[m]! = d[m - 1]! := by
        unfold Lib.keeps at hk
        simp at hk
        exact hk
      constructor
      · rintro ⟨j, hj, e⟩
        exact ⟨j, by omega, e⟩
      · rintro ⟨j, hj, e⟩
        by_cases ej : j = m
        · subst ej; exact ⟨j - 1, by omega, by rw [← hm0.2]; exact e⟩
        · exact ⟨j, by omega, e⟩
theorem compact_sorted (C : List Int) : (Lib.compact (sortedI C)).Pairwise (· < ·) ∧ ∀ x, x ∈ Lib.compact (sortedI C) ↔ x ∈ C := by
  have hp : (sortedI C).Pairwise (fun x y => decide (x ≤ y) = true) := List.pairwise_mergeSort (fun a b c h1 h2 => by simp at *; omega) (fun a b => by simp; omega) C
  have hs : ∀ i j, i < j → j < (sortedI C).toArray.size → (sortedI C).toArray[i]! ≤ (sortedI C).toArray[j]! := by
    intro i j hij hj
    have hj' : j < (sortedI C).length := by simpa using hj
    have h := List.pairwise_iff_getElem.1 hp i j (by omega) hj' hij
    rw [getElem!_pos _ i (by simp; omega), getElem!_pos _ j (by simpa using hj')]
    simpa using h
  obtain ⟨h1, h2⟩ := compact_up (sortedI C).toArray (sortedI C).length (by simp) hs
  refine ⟨h1, fun x => ?_⟩
  unfold Lib.compact
  rw [h2 x]
  have hmem : x ∈ sortedI C ↔ x ∈ C := by unfold sortedI; exact List.mem_mergeSort
  rw [← hmem]
  constructor
  · rintro ⟨j, hj, e⟩
    rw [getElem!_pos _ j (by simpa using hj)] at e
    rw [← e]
    simp
  · intro h
    obtain ⟨j, hj, e⟩ := List.getElem_of_mem h
    exact ⟨j, hj, by rw [getElem!_pos _ j (by simpa using hj)]; simpa using e⟩
/-- Both ways lead to the same columns. -/
theorem cols_add (C : List Int) : Lib.compact (sortedI C) = C.foldl addI [] := by
  obtain ⟨h1, h2⟩ := compact_sorted C
  refine asc_unique h1 (foldl_asc C [] (by simp)) fun m => ?_
  rw [h2 m, foldl_mem]; simp
theorem colsV_add (p : Pr) : colsV p = (colsP p).foldl addI [] := cols_add _
theorem addI_length : ∀ (l : List Int) (n : Int), (addI l n).length ≤ l.length + 1
  | [], n => by simp [addI]
  | x :: l, n => by
    rw [addI]
    have := addI_length l n
    split
    · simp; omega
    · split <;> simp
/-- Where Add puts a number: behind the first i numbers, which are below it. -/
theorem addI_at : ∀ (l : List Int) (n : Int) (i : Nat), i ≤ l.length → (∀ j (h : j < l.length), j < i → l[j] < n) → (∀ h : i < l.length, ¬ l[i] < n) →
    addI l n = if h : i < l.length then (if l[i] = n then l else l.take i ++ n :: l.drop i) else l.take i ++ n :: l.drop i
  | [], n, i, hi, _, _ => by
    obtain rfl : i = 0 := by simpa using hi
    simp [addI]
  | x :: l, n, 0, _, _, h3 => by
    have := h3 (by simp)
    simp only [List.getElem_cons_zero] at this
    rw [addI, if_neg this]
    simp
  | x :: l, n, i + 1, hi, h2, h3 => by
    have h0 : x < n := h2 0 (by simp) (by omega)
    rw [addI, if_pos h0, addI_at l n i (by simpa using hi) (fun j h hj => by have := h2 (j + 1) (by simpa using h) (by omega); simpa using this) (fun h => by have := h3 (by simpa using h); simpa using this)]
    by_cases hl : i < l.length
    · rw [dif_pos hl, dif_pos (by simpa using hl)]
      simp only [List.getElem_cons_succ]
      split <;> simp
    · rw [dif_neg hl, dif_neg (by simpa using hl)]; simp
end Go.Proofs.YtndnlmpmloiiiaaDoor
/- The contract of the laws' same. -/
set_option linter.unusedSimpArgs false
set_option linter.unusedVariables false
namespace Go.Proofs.YtndnlmpmloiiiaaDoor
open Go.RowKit

set_option maxHeartbeats 4000000 in
set_option maxRecDepth 100000 in
theorem same_calls (S S' : Nat → Prop) (va vb : Value) (a b : List Int) (w : World) (ha : IntsAt S w va a) (hb : IntsAt S' w vb b) : Calls Tryd.prog 23 #[va, vb] w (BoolG (decide (a = b)) w) := by
  have mx := mixed
  obtain ⟨W, rfl⟩ : ∃ W, W = w := ⟨_, rfl⟩
  obtain ⟨sa, sc, rfl, hsl⟩ := ha.slice
  obtain ⟨ta, tc, rfl, htl⟩ := hb.slice
  have HA := Lib.hid ha
  have HB := Lib.hid hb
  clear ha hb
  obtain ⟨res, hres⟩ : ∃ res, decide (a = b) = res := ⟨_, rfl⟩
  rw [hres]
  have HE : Hid (res = decide (a = b)) := hres.symm
  clear hres
  by_cases hNM : a.length = b.length
  · generalize hN : a.length = N at hsl HA hNM ⊢
    have hM : b.length = N := hNM.symm
    clear hNM
    rw [hM] at HB htl ⊢
    have HN := Lib.hid hN
    have HM := Lib.hid hM
    clear hN hM
    go_enter Tryd.func23, Tryd.ntmps23
    go_wp2_with fail
    go_loopw [5, 13] (fun _ i wr => ∃ j : Nat, j ≤ N ∧ i = .int .i64 j ∧ a.take j = b.take j ∧ Gro W wr) (fun _ i _ => N - (intOf i).toNat)
    case atStart => exact ⟨0, by omega, rfl, rfl, Gro.refl _⟩
    case round =>
      obtain ⟨j, hj, rfl, ht, hg⟩ := hrel
      obtain ⟨wo, rfl⟩ : ∃ wo : World, wo = wr := ⟨_, rfl⟩
      have HT := Lib.hid ht
      have HGR := Lib.hid hg
      have hwk := step_i j (by omega)
      by_cases hlt : j < N
      · have hkl : j < a.length := by rw [HN.out]; exact hlt
        have hkm : j < b.length := by rw [HM.out]; exact hlt
        have hlt' : decide ((j : Int) < (N : Int)) = true := by simp; omega
        have hltI : (j : Int) < (N : Int) := by omega
        have h0I : (0 : Int) ≤ (j : Int) := by omega
        obtain ⟨xb, xo, rfl, hxb, -, hxc⟩ := (HA.out.later hg.below).get hkl
        obtain ⟨yb, yo, rfl, hyb, -, hyc⟩ := (HB.out.later hg.below).get hkm
        obtain ⟨x, hx⟩ : ∃ x, a[j] = x := ⟨_, rfl⟩
        obtain ⟨y, hy⟩ : ∃ y, b[j] = y := ⟨_, rfl⟩
        rw [hx] at hxc
        rw [hy] at hyc
        have HTA : Hid (a.take (j + 1) = a.take j ++ [x]) := by show _ = _; rw [List.take_succ_eq_append_getElem hkl, hx]
        have HTB : Hid (b.take (j + 1) = b.take j ++ [y]) := by show _ = _; rw [List.take_succ_eq_append_getElem hkm, hy]
        have HGD : Hid (Gro W wo.drew) := HGR.out.drew
        clear ht hg hx hy
        go_wp2_with fail
        refine wp_region_noPanic ?_
        refine wp_region_held (S := fun w' => w'.cell? ⟨xb, xo + j, none⟩ = some (.int .i64 x) ∧ w'.cell? ⟨yb, yo + j, none⟩ = some (.int .i64 y)) mx ?_
        have hHeld : (fun w' : World => w'.cell? ⟨xb, xo + j, none⟩ = some (.int .i64 x) ∧ w'.cell? ⟨yb, yo + j, none⟩ = some (.int .i64 y)) wo.drew := ⟨by go_simp, by go_simp⟩
        change wpAnyH _ _ _ _ (fun w' => w'.cell? ⟨xb, xo + j, none⟩ = some (.int .i64 x) ∧ w'.cell? ⟨yb, yo + j, none⟩ = some (.int .i64 y)) _ _ _ wo.drew
        try simp only [Act.put, List.getElem_toArray, List.getElem_cons_succ, List.getElem_cons_zero, List.setIfInBounds_toArray, List.set_cons_zero, List.set_cons_succ]
        refine wpAnyH_take (i := 0) (v := ?_) rfl (by kernel_rfl) (by kernel_rfl) (by kernel_rfl) (fun _ _ _ h => h) (Or.inl ⟨by rfl, ?_⟩) (by assumption) ?_
        rotate_left
        · intro w hSw; (try dsimp only at hSw); go_simp; try with_reducible rfl
        try simp only [Act.put, List.getElem_toArray, List.getElem_cons_succ, List.getElem_cons_zero, List.setIfInBounds_toArray, List.set_cons_zero, List.set_cons_succ]
        refine wpAnyH_take (i := 1) (v := ?_) rfl (by kernel_rfl) (by kernel_rfl) (by kernel_rfl) (fun _ _ _ h => h) (Or.inl ⟨by rfl, ?_⟩) (by assumption) ?_
        rotate_left
        · intro w hSw; (try dsimp only at hSw); go_simp; try with_reducible rfl
        try simp only [Act.put, List.getElem_toArray, List.getElem_cons_succ, List.getElem_cons_zero, List.setIfInBounds_toArray, List.set_cons_zero, List.set_cons_succ]
        refine wpAnyH_take (i := 2) (v := ?_) rfl (by kernel_rfl) (by kernel_rfl) (by kernel_rfl) (fun _ _ _ h => h) (Or.inl ⟨by rfl, ?_⟩) (by assumption) ?_
        rotate_left
        · intro w hSw; (try dsimp only at hSw); go_simp; try with_reducible rfl
        try simp only [Act.put, List.getElem_toArray, List.getElem_cons_succ, List.getElem_cons_zero, List.setIfInBounds_toArray, List.set_cons_zero, List.set_cons_succ]
        refine wpAnyH_take (i := 3) (v := ?_) rfl (by kernel_rfl) (by kernel_rfl) (by kernel_rfl) (fun _ _ _ h => h) (Or.inl ⟨by rfl, ?_⟩) (by assumption) ?_
        rotate_left
        · intro w hSw; (try dsimp only at hSw); go_simp; try with_reducible rfl
        try simp only [Act.put, List.getElem_toArray, List.getElem_cons_succ, List.getElem_cons_zero, List.setIfInBounds_toArray, List.set_cons_zero, List.set_cons_succ]
        refine wpAnyH_take (i := 4) (v := ?_) rfl (by kernel_rfl) (by kernel_rfl) (by kernel_rfl) (fun _ _ _ h => h) (Or.inl ⟨by rfl, ?_⟩) (by assumption) ?_
        rotate_left
        · intro w hSw; (try dsimp only at hSw); go_simp; try with_reducible rfl
        try simp only [Act.put, List.getElem_toArray, List.getElem_cons_succ, List.getElem_cons_zero, List.setIfInBounds_toArray, List.set_cons_zero, List.set_cons_succ]
        refine wpAnyH_take (i := 5) (v := ?_) rfl (by kernel_rfl) (by kernel_rfl) (by kernel_rfl) (fun _ _ _ h => h) (Or.inl ⟨by rfl, ?_⟩) (by assumption) ?_
        rotate_left
        · intro w hSw; (try dsimp only at hSw); go_simp; try with_reducible rfl
        try simp only [Act.put, List.getElem_toArray, List.getElem_cons_succ, List.getElem_cons_zero, List.setIfInBounds_toArray, List.set_cons_zero, List.set_cons_succ]
        refine wpAnyH_take (i := 6) (v := ?_) rfl (by kernel_rfl) (by kernel_rfl) (by kernel_rfl) (fun _ _ _ h => h) (Or.inl ⟨by rfl, ?_⟩) (by assumption) ?_
        rotate_left
        · intro w hSw; (try dsimp only at hSw); go_simp; try with_reducible rfl
        try simp only [Act.put, List.getElem_toArray, List.getElem_cons_succ, List.getElem_cons_zero, List.setIfInBounds_toArray, List.set_cons_zero, List.set_cons_succ]
        refine wpAnyH_take (i := 7) (v := ?_) rfl (by kernel_rfl) (by kernel_rfl) (by kernel_rfl) (fun _ _ _ h => h) (Or.inl ⟨by rfl, ?_⟩) (by assumption) ?_
        rotate_left
        · intro w hSw; (try dsimp only at hSw); go_simp; try with_reducible rfl
        try simp only [Act.put, List.getElem_toArray, List.getElem_cons_succ, List.getElem_cons_zero, List.setIfInBounds_toArray, List.set_cons_zero, List.set_cons_succ]
        refine wpAnyH_take (i := 8) (v := ?_) rfl (by kernel_rfl) (by kernel_rfl) (by kernel_rfl) (fun _ _ _ h => h) (Or.inl ⟨by rfl, ?_⟩) (by assumption) ?_
        rotate_left
        · intro w hSw; (try dsimp only at hSw); go_simp; try with_reducible rfl
        try simp only [Act.put, List.setIfInBounds_toArray, List.set_cons_zero, List.set_cons_succ]
        try simp only [Act.put, List.getElem_toArray, List.getElem_cons_succ, List.getElem_cons_zero, List.setIfInBounds_toArray, List.set_cons_zero, List.set_cons_succ]
        refine wpAnyH_done (by kernel_rfl) ?_ _
        refine NoPanic.normal ?_
        clear hHeld hxc hyc
        by_cases hxy : x = y
        · subst hxy
          have HD : Hid (a.take (j + 1) = b.take (j + 1)) := by show _ = _; rw [HTA.out, HTB.out, HT.out]
          go_wp2
          exact ⟨⟨j + 1, by omega, by go_num, HD.out, HGD.out⟩, by simp [intOf]; omega⟩
        · have hxy' : (x == y) = false := by simpa using hxy
          have hxy'' : (x != y) = true := by simpa using hxy
          have HR : Hid (false = res) := by
            show _ = _
            rw [HE.out, eq_comm, decide_eq_false_iff_not]
            intro he
            have h3 := HTA.out
            rw [he, HTB.out] at h3
            exact hxy (List.cons.inj (List.append_inj' h3 rfl).2).1.symm
          go_wp2
          go_ret
          exact boolg HR.out HGD.out
      · have hlt' : decide ((j : Int) < (N : Int)) = false := by simp; omega
        have HR : Hid (true = res) := by
          show _ = _
          rw [List.take_of_length_le (by have := HN.out; omega), List.take_of_length_le (by have := HM.out; omega)] at ht
          rw [HE.out, eq_comm, decide_eq_true_iff]; exact ht
        clear ht hg
        go_wp2
        go_ret
        exact boolg HR.out HGR.out
  · have hNM' : ((a.length : Int) == (b.length : Int)) = false := by rw [beq_eq_false_iff_ne]; omega
    have hNM'' : ((a.length : Int) != (b.length : Int)) = true := by rw [bne_iff_ne]; omega
    have HR : Hid (false = res) := by
      show _ = _
      rw [HE.out, eq_comm, decide_eq_false_iff_not]
      intro he
      exact hNM (by rw [he])
    clear HA HB HE
    go_enter Tryd.func23, Tryd.ntmps23
    go_wp2
    go_ret
    exact boolg HR.out (Gro.refl _)
end Go.Proofs.YtndnlmpmloiiiaaDoor
