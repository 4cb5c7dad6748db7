/- The contract of the reference's Set. -/
import Derived.Test.YtmjokpakekfkfaaW
import Derived.Deep.AppendLies
import Derived.Test.YtmjokpakekfkfaaP
set_option linter.unusedSimpArgs false
set_option linter.unusedVariables false
namespace Go.Proofs.Ytmjokpakekfkfaa
open Go.RowKit

/-- Behind some steps of the merging. -/
def Merging (w3 : World) (rs : List (List V)) (N : Nat) (va vb vo : Value) (wr : World) : Prop :=
  ∃ (A B O : List (List V)) (xs : List Value), CutAt w3 va A ∧ CutAt w3 vb B ∧ wr.ownsRow w3.heap.size 88 1 vo O.length xs ∧ (∀ j (h : j < O.length), ∃ u, xs[j]? = some u ∧ RowAt w3 u O[j]) ∧
    Asc0 (O ++ A) ∧ Asc0 (O ++ B) ∧ (∀ r, (r ∈ O ∨ r ∈ A ∨ r ∈ B) ↔ r ∈ rs) ∧ O.length + A.length + B.length = N ∧ Below w3.heap.size w3 wr
theorem Merging.swap {w3 : World} {rs : List (List V)} {N : Nat} {va vb vo : Value} {wr : World} (h : Merging w3 rs N va vb vo wr) : Merging w3 rs N vb va vo wr := by
  obtain ⟨A, B, O, xs, m1, m2, m3, m4, m5, m6, m7, m8, m9⟩ := h
  refine ⟨B, A, O, xs, m2, m1, m3, m4, m6, m5, fun r => ?_, by omega, m9⟩
  rw [← m7 r]
  constructor
  · rintro (h | h | h)
    · exact .inl h
    · exact .inr (.inr h)
    · exact .inr (.inl h)
  · rintro (h | h | h)
    · exact .inl h
    · exact .inr (.inr h)
    · exact .inr (.inl h)
/-- The lower head goes behind what is done. -/
theorem Merging.left {w3 : World} {rs : List (List V)} {N : Nat} {va' vb vo vo' u : Value} {wr w6 : World} {A B O : List (List V)} {x y : List V} {xs : List Value}
    (hA : CutAt w3 va' A) (hB : CutAt w3 vb (y :: B)) (h0 : wr.ownsRow w3.heap.size 88 1 vo O.length xs) (ho : w6.ownsRow w3.heap.size 88 1 vo' (O.length + 1) (xs ++ [u]))
    (h4 : ∀ j (h : j < O.length), ∃ u, xs[j]? = some u ∧ RowAt w3 u O[j]) (hu : RowAt w3 u x) (h5 : Asc0 (O ++ x :: A)) (h6 : Asc0 (O ++ y :: B)) (hxy : cmpR x y ≤ 0)
    (h7 : ∀ r, (r ∈ O ∨ r ∈ x :: A ∨ r ∈ y :: B) ↔ r ∈ rs) (h8 : O.length + (x :: A).length + (y :: B).length = N) (h9 : Below w3.heap.size w3 w6) : Merging w3 rs N va' vb vo' w6 := by
  have hx : xs.length = O.length := by have := h0.1; simpa using this
  obtain ⟨s1, s2⟩ := merge_step h5 h6 hxy
  refine ⟨A, y :: B, O ++ [x], xs ++ [u], hA, hB, by rw [List.length_append]; exact ho, fun j hj => ?_, s1, s2, fun r => ?_, by simp at h8 ⊢; omega, h9⟩
  · by_cases h : j < O.length
    · obtain ⟨v, k1, k2⟩ := h4 j h
      exact ⟨v, by rw [List.getElem?_append_left (by omega)]; exact k1, by rw [List.getElem_append_left h]; exact k2⟩
    · have hj' : j = O.length := by simp at hj; omega
      subst hj'
      exact ⟨u, by rw [List.getElem?_append_right (by omega), hx]; simp, by simpa using hu⟩
  · rw [← h7 r]
    constructor
    · rintro (h | h | h)
      · rcases List.mem_append.1 h with h | h
        · exact .inl h
        · exact .inr (.inl (by simp at h; simp [h]))
      · exact .inr (.inl (List.mem_cons_of_mem _ h))
      · exact .inr (.inr h)
    · rintro (h | h | h)
      · exact .inl (List.mem_append_left _ h)
      · rcases List.mem_cons.1 h with h | h
        · exact .inl (by simp [h])
        · exact .inr (.inl h)
      · exact .inr (.inr h)
/-- Both rests behind what is done. -/
theorem sorts_end {w w3 wr wf : World} {rs : List (List V)} {vo vf : Value} {A B O : List (List V)} {xs us us' : List Value} {N : Nat}
    (h0 : wr.ownsRow w3.heap.size 88 1 vo O.length xs) (hf : wf.ownsRow w3.heap.size 88 1 vf (O.length + A.length + B.length) (xs ++ us ++ us'))
    (h4 : ∀ j (h : j < O.length), ∃ u, xs[j]? = some u ∧ RowAt w3 u O[j]) (ha : ∀ j (h : j < A.length), ∃ u, us[j]? = some u ∧ RowAt w3 u A[j]) (hb : ∀ j (h : j < B.length), ∃ u, us'[j]? = some u ∧ RowAt w3 u B[j])
    (hla : us.length = A.length) (h5 : Asc0 (O ++ A)) (h6 : Asc0 (O ++ B)) (hab : A = [] ∨ B = []) (h7 : ∀ r, (r ∈ O ∨ r ∈ A ∨ r ∈ B) ↔ r ∈ rs) (h8 : O.length + A.length + B.length = N) (hN : rs.length = N) (hN2 : N ≤ 4398046511104)
    (h9 : Below w3.heap.size w3 wf) (hw : Below w.heap.size w w3) : Sorts rs w (.returned vf) wf := by
  have hx : xs.length = O.length := by have := h0.1; simpa using this
  have hl1 : ∀ j (h : j < (O ++ A).length), ∃ u, (xs ++ us)[j]? = some u ∧ RowAt w3 u (O ++ A)[j] := fun j hj => by
    by_cases h : j < O.length
    · obtain ⟨v, k1, k2⟩ := h4 j h
      exact ⟨v, by rw [List.getElem?_append_left (by omega)]; exact k1, by rw [List.getElem_append_left h]; exact k2⟩
    · have hj' : j - O.length < A.length := by simp at hj; omega
      obtain ⟨u, k1, k2⟩ := ha _ hj'
      exact ⟨u, by rw [List.getElem?_append_right (by omega), hx]; exact k1, by rw [List.getElem_append_right (by omega)]; exact k2⟩
  have hl2 : ∀ j (h : j < (O ++ A ++ B).length), ∃ u, (xs ++ us ++ us')[j]? = some u ∧ RowAt w3 u (O ++ A ++ B)[j] := fun j hj => by
    by_cases h : j < (O ++ A).length
    · obtain ⟨v, k1, k2⟩ := hl1 j h
      exact ⟨v, by rw [List.getElem?_append_left (by simp at h ⊢; omega)]; exact k1, by rw [List.getElem_append_left h]; exact k2⟩
    · have hj' : j - (O ++ A).length < B.length := by
        simp only [List.length_append] at hj h ⊢; omega
      obtain ⟨u, k1, k2⟩ := hb _ hj'
      refine ⟨u, ?_, by rw [List.getElem_append_right (by simp at h ⊢; omega)]; exact k2⟩
      rw [List.getElem?_append_right (by simp at h ⊢; omega)]
      have e : (xs ++ us).length = (O ++ A).length := by simp [hx, hla]
      rw [e]; exact k1
  have hli : Listed w3.heap.size wf vf (O ++ A ++ B) (xs ++ us ++ us') := ⟨by simp only [List.length_append]; exact hf, fun j hj => let ⟨u, k1, k2⟩ := hl2 j hj; ⟨u, k1, k2.later h9⟩⟩
  refine ⟨vf, O ++ A ++ B, rfl, ?_, fun r => ?_, by simp; omega, cut_of_listed hli (by simp; omega), hw.trans (h9.mono hw.size)⟩
  · rcases hab with rfl | rfl
    · simpa using h6
    · simpa using h5
  · rw [← h7 r]
    simp only [List.mem_append, or_assoc]
theorem one_row (w : World) (T : TypeId) (x : Value) : ∀ j u, [x][j]? = some u → (w.alloc (.cells #[x] T)).cell? ((⟨w.heap.size, 0, none⟩ : Addr).add j) = some u := by
  intro j u hj
  rcases j with _ | j
  · simp at hj; subst hj; show (w.alloc _).cell? ⟨w.heap.size, 0 + 0, none⟩ = _; go_simp
  · simp at hj
set_option maxHeartbeats 600000 in
set_option maxRecDepth 100000 in
theorem sorted_calls : ∀ (n : Nat) (va : Value) (rs : List (List V)) (w : World), rs.length ≤ n → n ≤ 100000 → CutAt w va rs → Calls Try.prog 81 #[va] w (Sorts rs w) := by
  intro n
  induction n with
  | zero =>
    intro va rs w hn _ hc
    exact short_calls va rs w (by omega) hc
  | succ n ih =>
    intro va rs w hn h100 hc
    obtain ⟨pa, ca, rfl, hcap, hcm, hl, ha⟩ := hc
    obtain ⟨i, hi, hz, hsz, hby⟩ := info_parts info38
    have HI := Lib.hid hi
    have HZ := Lib.hid hz
    have HSZ := Lib.hid hsz
    have HBY := Lib.hid hby
    have HA := Lib.hid ha
    have HIH := Lib.hid ih
    clear hi hz hsz hby ha ih
    by_cases h2 : rs.length < 2
    · exact short_calls _ rs w h2 ⟨pa, ca, rfl, hcap, hcm, hl, HA.out⟩
    · generalize hN : rs.length = N at hn hcap hl h2 ⊢
      have HN := Lib.hid hN
      clear hN
      have hd : decide ((N : Int) < 2) = false := by simp; omega
      obtain ⟨hf, hh⟩ : ∃ hf, hf = N / 2 := ⟨_, rfl⟩
      have hh1 : (N : Int) / 2 = (hf : Int) := by omega
      have hh2 : (N : Int).tdiv 2 = (hf : Int) := by rw [Int.tdiv_eq_ediv_of_nonneg (by omega)]; exact hh1
      have hh3 : wrap64 (hf : Int) = (hf : Int) := by unfold wrap64; omega
      have hh4 : hf ≤ N := by omega
      have hh5 : hf ≤ ca := by omega
      have HH := Lib.hid hh
      clear hh
      have mx := mixed
      have q1 : IntKind.i64.wrap (hf : Int) = (hf : Int) := IntWalk.i64_in _ (by omega)
      have q2 : IntKind.i64.wrap ((N : Int) / 2) = (hf : Int) := by rw [hh1]; exact q1
      have j1 : Int.toNat (hf : Int) = hf := by omega
      have j2 : ¬ ((hf : Int) < 0) := by omega
      have j3 : ¬ ((ca : Int) < (hf : Int)) := by omega
      have j4 : ¬ ((N : Int) < (hf : Int)) := by omega
      have j5 : ¬ (N < hf) := by omega
      have j6 : ¬ (ca < hf) := by omega
      have hne : rs ≠ [] := by rintro rfl; have := HN.out; simp at this; omega
      obtain ⟨b0, off, rfl, hr0⟩ := HA.out.resolve_left hne
      have hc1 : CutAt w (.slice (some ⟨b0, off, none⟩) hf ca) (rs.take hf) := ⟨_, ca, by rw [List.length_take, HN.out, Nat.min_eq_left hh4], by rw [List.length_take, HN.out]; omega, hcm, by rw [List.length_take, HN.out]; omega, .inr ⟨b0, off, rfl, hr0.head hf⟩⟩
      have hc2 : ∀ w', Below w.heap.size w w' → CutAt w' (.slice (some ⟨b0, off + hf, none⟩) (N - hf) (ca - hf)) (rs.drop hf) := fun w' hb =>
        ⟨_, ca - hf, by rw [List.length_drop, HN.out], by rw [List.length_drop, HN.out]; omega, by omega, by rw [List.length_drop, HN.out]; omega, .inr ⟨b0, off + hf, rfl, (hr0.cut hf).later hb⟩⟩
      have HC1 := Lib.hid hc1
      have HC2 := Lib.hid hc2
      have hl1 : (rs.take hf).length ≤ n := by rw [List.length_take, HN.out]; have := HH.out; omega
      have hl2 : (rs.drop hf).length ≤ n := by rw [List.length_drop, HN.out]; have := HH.out; omega
      have HL1 := Lib.hid hl1
      have HL2 := Lib.hid hl2
      have i1 : (0 : Int) ≤ (hf : Int) := by omega
      have i2 : (hf : Int) ≤ (N : Int) := by omega
      have i3 : (hf : Int) ≤ (ca : Int) := by omega
      have i4 : (N : Int) ≤ (ca : Int) := by omega
      have i5 : ((N : Int) - (hf : Int)).toNat = N - hf := by omega
      have i6 : ((ca : Int) - (hf : Int)).toNat = ca - hf := by omega
      have hN0 : hf < N := by have := HH.out; omega
      have hca0 : hf < ca := by omega
      have hcall1 : ∀ w', Below w.heap.size w w' → Calls Try.prog 81 #[.slice (some ⟨b0, off, none⟩) hf ca] w' fun e w2 => ∃ v, e = .returned v ∧ ∃ s, Asc0 s ∧ (∀ r, r ∈ s ↔ r ∈ rs.take hf) ∧ s.length = hf ∧ CutAt w2 v s ∧ Below w.heap.size w w2 := fun w' hb => by
        have hcw : CutAt w' (.slice (some ⟨b0, off, none⟩) hf ca) (rs.take hf) := ⟨_, ca, by rw [List.length_take, HN.out, Nat.min_eq_left hh4], by rw [List.length_take, HN.out]; omega, hcm, by rw [List.length_take, HN.out]; omega, .inr ⟨b0, off, rfl, (hr0.head hf).later hb⟩⟩
        refine (HIH.out _ _ _ HL1.out (by omega) hcw).mono ?_
        rintro e w2 ⟨v, s, rfl, k1, k2, k3, k4, k5⟩
        exact ⟨v, rfl, s, k1, k2, by rw [k3, List.length_take, HN.out, Nat.min_eq_left hh4], k4, hb.trans (k5.mono hb.size)⟩
      have hcall2 : ∀ w', Below w.heap.size w w' → Calls Try.prog 81 #[.slice (some ⟨b0, off + hf, none⟩) (N - hf) (ca - hf)] w' fun e w2 => ∃ v, e = .returned v ∧ ∃ s, Asc0 s ∧ (∀ r, r ∈ s ↔ r ∈ rs.drop hf) ∧ s.length = N - hf ∧ CutAt w2 v s ∧ Below w'.heap.size w' w2 := fun w' hb => by
        refine (HIH.out _ _ _ HL2.out (by omega) (HC2.out _ hb)).mono ?_
        rintro e w2 ⟨v, s, rfl, k1, k2, k3, k4, k5⟩
        exact ⟨v, rfl, s, k1, k2, by rw [k3, List.length_drop, HN.out], k4, k5⟩
      have HCA := Lib.hid hcall1
      have HCB := Lib.hid hcall2
      have HIHH := HIH
      clear hcall1 hcall2 hc1 hc2 hl1 hl2 hr0 hne HC1 HC2 HL1 HL2 HIH HIHH HA
      go_enter Try.func81, Try.ntmps81
      go_wp2_with fail
      have tok1 : True := trivial
      have tok2 : True := trivial
      go_region_held3 (fun w' => True) (go_keep) (first
        | (go_at_call 81; have _t := tok1; clear _t; refine (HCA.out _ (by first | exact Below.refl _ _ | exact below_drew _)).mono ?_; rintro e w2 ⟨v2, rfl, hs2⟩; have hb2 := hs2.choose_spec.2.2.2.2; have HS2 := Lib.hid hs2; clear hs2 tok1)
        | (go_at_call 81; have _t := tok2; clear _t; refine (HCB.out _ (by first | exact hb2 | exact hb2.trans ((below_drew _).mono hb2.size))).mono ?_; rintro e w3 ⟨v3, rfl, hs3⟩; have HS3 := Lib.hid hs3; clear hs3 tok2))
      obtain ⟨sa, a1, a2, a3, a4, a5⟩ := HS2.out
      obtain ⟨sb, b1, b2, b3, b4, b5⟩ := HS3.out
      have hb3 : Below w.heap.size w w3 := a5.trans (b5.mono a5.size)
      obtain ⟨w4, hrun4, hown4, hg4⟩ := run_make_own (P := Try.prog) w3 w3.heap.size 87 88 i _ 1 Try.underlying87 HI.out HZ.out HSZ.out .i64 .i64 N (by rw [HBY.out]; omega) (by unfold maxLen; omega) (Nat.le_refl _)
      have hb4 : Below w3.heap.size w3 w4 := (Below.refl _ _).grown hg4 (Nat.le_refl _) (fun k hk => by cases hk)
      obtain ⟨ap, ac, rfl, a6, a7, a8, a9⟩ := a4
      obtain ⟨bp, bc, rfl, b6, b7, b8, b9⟩ := b4
      clear HS2 HS3 HCA HCB
      go_wp2_with fail
      --LOOP
      have hmer : Merging w3 rs N (.slice ap sa.length ac) (.slice bp sb.length bc) (.slice (some ⟨w3.heap.size, 0, none⟩) 0 N) w4 := by
        refine ⟨sa, sb, [], [], CutAt.later ⟨_, _, rfl, a6, a7, a8, a9⟩ b5, ⟨_, _, rfl, b6, b7, b8, b9⟩, hown4, fun j hj => absurd hj (Nat.not_lt_zero _), by simpa using a1, by simpa using b1, fun r => ?_, by have := HH.out; simp; omega, hb4⟩
        rw [a2 r, b2 r]
        constructor
        · rintro (h | h | h)
          · simp at h
          · exact List.mem_of_mem_take h
          · exact List.mem_of_mem_drop h
        · intro h
          rw [← List.take_append_drop hf rs] at h
          exact .inr (List.mem_append.1 h)
      have HMER := Lib.hid hmer
      have HB3 := Lib.hid hb3
      clear hmer hb3 hrun4 hown4 hg4 hb4 a1 a2 a3 a5 b1 b2 b3 b5 a6 a7 a8 a9 b6 b7 b8 b9 hb2 q1 q2 hh1 hh2 hh3 hh4 hh5 i1 i2 i3 i4 i5 i6 j1 j2 j3 j4 j5 j6 hN0 hca0 HH h
      go_loopw [3, 4, 5] (fun va vb vo wr => Merging w3 rs N va vb vo wr) (fun va vb _ _ => lenV va + lenV vb)
      case atStart => exact HMER.out
      case round =>
        obtain ⟨A, B, O, xs, m1, m2, m3, m4, m5, m6, m7, m8, m9⟩ := hrel
        have M3 := Lib.hid m3
        have M4 := Lib.hid m4
        have M5 := Lib.hid m5
        have M6 := Lib.hid m6
        have M7 := Lib.hid m7
        have M8 := Lib.hid m8
        have M9 := Lib.hid m9
        clear m3 m4 m5 m6 m7 m8 m9 HMER
        by_cases hA0 : A = []
        · subst hA0
          obtain ⟨pa, ca, us, rfl, n1, n2, n3, n4, n5⟩ := m1.news
          obtain ⟨pb, cb, us', rfl, r1, r2, r3, r4, r5⟩ := m2.news
          have hlim : O.length + 0 + B.length ≤ 4398046511104 := by have := M8.out; simp only [List.length_nil] at this; omega
          have HLIM := Lib.hid hlim
          have N1 := Lib.hid n1
          have N2 := Lib.hid n2
          have N3 := Lib.hid n3
          have N4 := Lib.hid n4
          have N5 : Hid (∀ b, pa = some b → ∀ j u, us[j]? = some u → wr.cell? (b.add j) = some u) := fun b hb j u hj => (M9.out.cell (cell_lt (n5 b hb j u hj)).1).trans (n5 b hb j u hj)
          have R1 := Lib.hid r1
          have R2 := Lib.hid r2
          have R3 := Lib.hid r3
          have R4 := Lib.hid r4
          have R5 := Lib.hid r5
          clear n1 n2 n3 n4 n5 r1 r2 r3 r4 r5 m1 m2 hlim
          go_wp2_with (at_builtin; go_must (refine wpList_append_any rfl _ _ 87 rfl w3.heap.size 88 i (.slice none 0 0) 1 24 Try.underlying87 HI.out HZ.out HSZ.out HBY.out rfl (by decide) u5 O.length xs rfl M3.out pa 0 ca us rfl (fun h => N4.out h) ?ac1 ?ac2 ?ac3 ?ac4 ?ac5 ?ac6 ?_))
          case ac1 => exact N1.out.trans (Nat.mul_one _).symm
          case ac2 => exact N5.out
          case ac3 => exact N3.out
          case ac4 => have := HLIM.out; unfold maxLen; omega
          case ac5 => have := HLIM.out; omega
          case ac6 => exact M9.out.size
          intro v1 w5 ho5 hg5
          have HB5 : Hid (Below w3.heap.size w3 w5) := M9.out.grown hg5 M9.out.size (fun k hk => (M3.out.lt k hk).1)
          have HO5 := Lib.hid ho5
          clear ho5 hg5
          go_wp2_with (at_builtin; go_must (refine wpList_append_any rfl _ _ 87 rfl w3.heap.size 88 i (.slice none 0 0) 1 24 Try.underlying87 HI.out HZ.out HSZ.out HBY.out rfl (by decide) v1 (O.length + 0) (xs ++ us) rfl HO5.out pb B.length cb us' rfl (fun h => R4.out h) ?ad1 ?ad2 ?ad3 ?ad4 ?ad5 ?ad6 ?_))
          case ad1 => exact R1.out.trans (Nat.mul_one _).symm
          case ad2 => exact fun b hb j u hj => (HB5.out.cell (cell_lt (R5.out b hb j u hj)).1).trans (R5.out b hb j u hj)
          case ad3 => exact R3.out
          case ad4 => have := HLIM.out; unfold maxLen; omega
          case ad5 => have := HLIM.out; omega
          case ad6 => exact HB5.out.size
          intro v2 w6 ho6 hg6
          have HB6 : Hid (Below w3.heap.size w3 w6) := HB5.out.grown hg6 HB5.out.size (fun k hk => (HO5.out.lt k hk).1)
          have HO6 : Hid (w6.ownsRow w3.heap.size 88 1 v2 (O.length + 0 + B.length) (xs ++ us ++ us')) := by show World.ownsRow _ _ _ _ _ _ _; simpa [List.append_assoc] using ho6
          clear ho6 hg6
          go_wp2
          go_ret
          exact sorts_end (A := []) (B := B) M3.out HO6.out M4.out N2.out R2.out N1.out M5.out M6.out (.inl rfl) M7.out M8.out HN.out hl HB6.out HB3.out
        by_cases hB0 : B = []
        · subst hB0
          have hpos : 0 < A.length := List.length_pos_iff.2 hA0
          have p1 : decide ((0 : Int) < (A.length : Int)) = true := by simp; exact hpos
          obtain ⟨pa, ca, us, rfl, n1, n2, n3, n4, n5⟩ := m1.news
          obtain ⟨pb, cb, us', rfl, r1, r2, r3, r4, r5⟩ := m2.news
          have hlim : O.length + A.length + 0 ≤ 4398046511104 := by have := M8.out; simp only [List.length_nil] at this; omega
          have HLIM := Lib.hid hlim
          have N1 := Lib.hid n1
          have N2 := Lib.hid n2
          have N3 := Lib.hid n3
          have N4 := Lib.hid n4
          have N5 : Hid (∀ b, pa = some b → ∀ j u, us[j]? = some u → wr.cell? (b.add j) = some u) := fun b hb j u hj => (M9.out.cell (cell_lt (n5 b hb j u hj)).1).trans (n5 b hb j u hj)
          have R1 := Lib.hid r1
          have R2 := Lib.hid r2
          have R3 := Lib.hid r3
          have R4 := Lib.hid r4
          have R5 := Lib.hid r5
          clear n1 n2 n3 n4 n5 r1 r2 r3 r4 r5 m1 m2 hlim
          go_wp2_with (at_builtin; go_must (refine wpList_append_any rfl _ _ 87 rfl w3.heap.size 88 i (.slice none 0 0) 1 24 Try.underlying87 HI.out HZ.out HSZ.out HBY.out rfl (by decide) u5 O.length xs rfl M3.out pa A.length ca us rfl (fun h => N4.out h) ?bc1 ?bc2 ?bc3 ?bc4 ?bc5 ?bc6 ?_))
          case bc1 => exact N1.out.trans (Nat.mul_one _).symm
          case bc2 => exact N5.out
          case bc3 => exact N3.out
          case bc4 => have := HLIM.out; unfold maxLen; omega
          case bc5 => have := HLIM.out; omega
          case bc6 => exact M9.out.size
          intro v1 w5 ho5 hg5
          have HB5 : Hid (Below w3.heap.size w3 w5) := M9.out.grown hg5 M9.out.size (fun k hk => (M3.out.lt k hk).1)
          have HO5 := Lib.hid ho5
          clear ho5 hg5
          go_wp2_with (at_builtin; go_must (refine wpList_append_any rfl _ _ 87 rfl w3.heap.size 88 i (.slice none 0 0) 1 24 Try.underlying87 HI.out HZ.out HSZ.out HBY.out rfl (by decide) v1 (O.length + A.length) (xs ++ us) rfl HO5.out pb 0 cb us' rfl (fun h => R4.out h) ?bd1 ?bd2 ?bd3 ?bd4 ?bd5 ?bd6 ?_))
          case bd1 => exact R1.out.trans (Nat.mul_one _).symm
          case bd2 => exact fun b hb j u hj => (HB5.out.cell (cell_lt (R5.out b hb j u hj)).1).trans (R5.out b hb j u hj)
          case bd3 => exact R3.out
          case bd4 => have := HLIM.out; unfold maxLen; omega
          case bd5 => have := HLIM.out; omega
          case bd6 => exact HB5.out.size
          intro v2 w6 ho6 hg6
          have HB6 : Hid (Below w3.heap.size w3 w6) := HB5.out.grown hg6 HB5.out.size (fun k hk => (HO5.out.lt k hk).1)
          have HO6 : Hid (w6.ownsRow w3.heap.size 88 1 v2 (O.length + A.length + 0) (xs ++ us ++ us')) := by show World.ownsRow _ _ _ _ _ _ _; simpa [List.append_assoc] using ho6
          clear ho6 hg6
          go_wp2
          go_ret
          exact sorts_end (A := A) (B := []) M3.out HO6.out M4.out N2.out R2.out N1.out M5.out M6.out (.inr rfl) M7.out M8.out HN.out hl HB6.out HB3.out
        obtain ⟨x, A, rfl⟩ := List.exists_cons_of_ne_nil hA0
        obtain ⟨y, B, rfl⟩ := List.exists_cons_of_ne_nil hB0
        clear hA0 hB0
        obtain ⟨ba, oa, ca, ua, pa', ca', rfl, ha1, ha2, ha3, ha4, ha5, ha6, ha7⟩ := m1.tail
        obtain ⟨bb, ob, cb, ub, pb', cb', rfl, hb1, hb2, hb3, hb4, hb5, hb6, hb7⟩ := m2.tail
        obtain ⟨xa, xc, rfl, -, -⟩ := id ha5
        obtain ⟨ya, yc, rfl, -, -⟩ := id hb5
        have ka := (M9.out.cell (p := ⟨ba, oa, none⟩) ha4).trans ha3
        have kb := (M9.out.cell (p := ⟨bb, ob, none⟩) hb4).trans hb3
        have la := Nat.lt_of_lt_of_le ha4 M9.out.size
        have lb := Nat.lt_of_lt_of_le hb4 M9.out.size
        have hcmp : ∀ w', Below wr.heap.size wr w' → Calls Try.prog 82 #[.slice xa x.length xc, .slice ya y.length yc] w' fun e w'' => e = .returned (.int .i64 (cmpR x y)) ∧ Gro w' w'' := fun w' hb =>
          refCompareRows_calls _ _ x y w' ((ha5.later M9.out).later hb) ((hb5.later M9.out).later hb)
        obtain ⟨d, hd⟩ : ∃ d, cmpR x y = d := ⟨_, rfl⟩
        rw [hd] at hcmp
        have HC := Lib.hid hcmp
        have HD := Lib.hid hd
        have HA6 := Lib.hid ha6
        have HA7 := Lib.hid ha7
        have HB6 := Lib.hid hb6
        have HB7 := Lib.hid hb7
        have HA5 := Lib.hid ha5
        have HB5 := Lib.hid hb5
        have MA := Lib.hid m1
        have MB := Lib.hid m2
        clear hcmp hd ha6 ha7 hb6 hb7 ha5 hb5 m1 m2 ha3 hb3
        generalize hNA : A.length = NA at *
        generalize hNB : B.length = NB at *
        have HNA := Lib.hid hNA
        have HNB := Lib.hid hNB
        clear hNA hNB
        have p1 : decide ((0 : Int) < ((NA + 1 : Nat) : Int)) = true := by simp
        have p2 : decide ((0 : Int) < ((NB + 1 : Nat) : Int)) = true := by simp
        have mx := mixed
        have hOl : O.length ≤ 4398046511104 - 1 := by have := M8.out; omega
        have HOL := Lib.hid hOl
        clear hOl
        by_cases hle : d ≤ 0
        · go_wp2_with fail
          go_quiet_grown (first | (go_at_call 82; refine gro_calls (HC.out _ ((Gro.refl wr).grown _ _).below)))
          go_wp2_with fail
          obtain ⟨W5, hW5⟩ : ∃ W5, W5 = Sort.grow (wr.drewN nq) osq := ⟨_, rfl⟩
          have hg5 : Below wr.heap.size wr W5 := by rw [hW5]; exact ((Gro.refl wr).grown _ _).below
          rw [← hW5]
          have h95 : Below w3.heap.size w3 W5 := M9.out.trans (hg5.mono M9.out.size)
          have c5 := (hg5.cell (p := ⟨ba, oa, none⟩) la).trans ka
          have l5 := Nat.lt_of_lt_of_le la hg5.size
          have hne : some ba ≠ u5.ownBlock := fun e => by have := (M3.out.lt ba e.symm).1; omega
          have hdr : ∀ o, Below W5.heap.size W5 (W5.drew.alloc o) := fun o => (below_drew W5).alloc (Nat.le_refl _) _
          have HDR := Lib.hid hdr
          have HOWN := Lib.hid (own_keep (own_keep M3.out hg5) (hdr (.cells #[.slice xa x.length xc] 88)))
          have H95 := Lib.hid h95
          have hsl := HA6.out
          have a1' : (0 : Int) < (NA : Int) + 1 := by omega
          have a2' : (1 : Int) ≤ (NA : Int) + 1 := by omega
          clear hW5 hg5 h95 ka kb la lb p1 p2 HC HB6 hdr
          go_region_held3 (fun w' => w'.cell? ⟨ba, oa, none⟩ = some (.slice xa x.length xc)) (go_keep)
            (first
              | (refine step_append_lies _ rfl _ _ 87 rfl w3.heap.size 88 i (.slice none 0 0) 1 24 Try.underlying87 HI.out HZ.out HSZ.out HBY.out rfl (by decide) u5 O.length xs rfl HOWN.out ⟨W5.heap.size, 0, none⟩ 1 1 [.slice xa x.length xc] rfl rfl (one_row W5.drew _ _) (by intro u hu; simp at hu; subst hu; rfl) (by decide) (by have := HOL.out; unfold maxLen; omega) (by have := HOL.out; omega) (by have := H95.out.size; simp; omega) (W5.heap.size + 1) (by simp) ?_; intro g cp w6 hown6 hgrow hat hlt6; have c6 : w6.cell? ⟨ba, oa, none⟩ = some (.slice xa x.length xc) := hgrow.cell (by go_simp) hne; have l6 : ba < w6.heap.size := Nat.lt_of_lt_of_le l5 (Nat.le_trans (by simp) hgrow.size); have HO6 := Lib.hid hown6; have HG6 := Lib.hid hgrow; clear hown6 hgrow hat hlt6))
          have hb6 : Below w3.heap.size w3 w6 := ((H95.out.alloc H95.out.size _).drew).grown HG6.out (Nat.le_trans H95.out.size (by simp)) (fun k hk => (M3.out.lt k hk).1)
          have HM := Lib.hid (Merging.left HA7.out MB.out M3.out HO6.out M4.out HA5.out M5.out M6.out (by rw [HD.out]; exact hle) M7.out M8.out hb6)
          clear hb6 HO6 HG6 HOWN hsl c5 c6 l5 l6 HDR
          go_wp2
          go_roundw
          case rel => exact HM.out
          case measure => simp [lenV]
        · have M7S : Hid (∀ r, (r ∈ O ∨ r ∈ y :: B ∨ r ∈ x :: A) ↔ r ∈ rs) := fun r => (by rw [← M7.out r]; constructor <;> (rintro (h | h | h) <;> simp only [h, true_or, or_true]))
          have M8S : Hid (O.length + (y :: B).length + (x :: A).length = N) := by show _ = _; have := M8.out; omega
          go_wp2_with fail
          go_quiet_grown (first | (go_at_call 82; refine gro_calls (HC.out _ ((Gro.refl wr).grown _ _).below)))
          go_wp2_with fail
          obtain ⟨W5, hW5⟩ : ∃ W5, W5 = Sort.grow (wr.drewN nq) osq := ⟨_, rfl⟩
          have hg5 : Below wr.heap.size wr W5 := by rw [hW5]; exact ((Gro.refl wr).grown _ _).below
          rw [← hW5]
          have h95 : Below w3.heap.size w3 W5 := M9.out.trans (hg5.mono M9.out.size)
          have c5 := (hg5.cell (p := ⟨bb, ob, none⟩) lb).trans kb
          have l5 := Nat.lt_of_lt_of_le lb hg5.size
          have hne : some bb ≠ u5.ownBlock := fun e => by have := (M3.out.lt bb e.symm).1; omega
          have hdr : ∀ o, Below W5.heap.size W5 (W5.drew.alloc o) := fun o => (below_drew W5).alloc (Nat.le_refl _) _
          have HDR := Lib.hid hdr
          have HOWN := Lib.hid (own_keep (own_keep M3.out hg5) (hdr (.cells #[.slice ya y.length yc] 88)))
          have H95 := Lib.hid h95
          have hsl := HB6.out
          have a1' : (0 : Int) < (NB : Int) + 1 := by omega
          have a2' : (1 : Int) ≤ (NB : Int) + 1 := by omega
          clear hW5 hg5 h95 ka kb la lb p1 p2 HC HA6 hdr
          go_region_held3 (fun w' => w'.cell? ⟨bb, ob, none⟩ = some (.slice ya y.length yc)) (go_keep)
            (first
              | (refine step_append_lies _ rfl _ _ 87 rfl w3.heap.size 88 i (.slice none 0 0) 1 24 Try.underlying87 HI.out HZ.out HSZ.out HBY.out rfl (by decide) u5 O.length xs rfl HOWN.out ⟨W5.heap.size, 0, none⟩ 1 1 [.slice ya y.length yc] rfl rfl (one_row W5.drew _ _) (by intro u hu; simp at hu; subst hu; rfl) (by decide) (by have := HOL.out; unfold maxLen; omega) (by have := HOL.out; omega) (by have := H95.out.size; simp; omega) (W5.heap.size + 1) (by simp) ?_; intro g cp w6 hown6 hgrow hat hlt6; have c6 : w6.cell? ⟨bb, ob, none⟩ = some (.slice ya y.length yc) := hgrow.cell (by go_simp) hne; have l6 : bb < w6.heap.size := Nat.lt_of_lt_of_le l5 (Nat.le_trans (by simp) hgrow.size); have HO6 := Lib.hid hown6; have HG6 := Lib.hid hgrow; clear hown6 hgrow hat hlt6))
          have hb6 : Below w3.heap.size w3 w6 := ((H95.out.alloc H95.out.size _).drew).grown HG6.out (Nat.le_trans H95.out.size (by simp)) (fun k hk => (M3.out.lt k hk).1)
          have HM := Lib.hid ((Merging.left HB7.out MA.out M3.out HO6.out M4.out HB5.out M6.out M5.out (by rw [goodR.neg, HD.out]; omega) M7S.out M8S.out hb6).swap)
          clear hb6 HO6 HG6 HOWN hsl c5 c6 l5 l6 HDR
          go_wp2
          go_roundw
          case rel => exact HM.out
          case measure => simp [lenV]
end Go.Proofs.Ytmjokpakekfkfaa
set_option linter.unusedSimpArgs false
set_option linter.unusedVariables false
namespace Go.Proofs.Ytmjokpakekfkfaa
open Go.RowKit

theorem dd_last {s : List (List V)} : ∀ k, 0 < k → ∃ L, dd s k = L ++ [s.getD (k - 1) []] := by
  intro k
  induction k with
  | zero => intro h; omega
  | succ k ih =>
    intro _
    by_cases h0 : k = 0
    · subst h0; exact ⟨[], by rw [dd_first]; rfl⟩
    by_cases e : cmpR (s.getD (k - 1) []) (s.getD k []) = 0
    · obtain ⟨L, hL⟩ := ih (by omega)
      rw [dd_old h0 e, Nat.add_sub_cancel]
      exact ⟨L, by rw [hL, (goodR.zero _ _).1 e]⟩
    · exact ⟨dd s k, by rw [dd_new e, Nat.add_sub_cancel]⟩
theorem one_cell (w : World) (T : TypeId) (x : Value) : ∀ j u, [x][j]? = some u → (w.alloc (.cells #[x] T)).cell? ((⟨w.heap.size, 0, none⟩ : Addr).add j) = some u := one_row w T x
set_option maxHeartbeats 1000000 in
set_option maxRecDepth 100000 in
theorem refSet_calls (va : Value) (rows : List (List V)) (w : World) (hn : rows.length ≤ 100000) (ha : CutAt w va rows) (hsm : ∀ r ∈ rows, r.length ≤ 4398046511104) :
    Calls Try.prog 75 #[va] w fun e w' => ∃ v out, e = .returned v ∧ SetOf rows out ∧ Owned w.heap.size w' v out ∧ Below w.heap.size w w' := by
  obtain ⟨i, hi, hz, hsz, hby⟩ := info_parts info38
  have HI := Lib.hid hi
  have HZ := Lib.hid hz
  have HSZ := Lib.hid hsz
  have HBY := Lib.hid hby
  have HS := Lib.hid (sorted_calls rows.length va rows w (Nat.le_refl _) hn ha)
  clear hi hz hsz hby ha
  go_enter Try.func75, Try.ntmps75
  go_wp2_with fail
  refine HS.out.mono ?_
  rintro e w3 ⟨vs, s, rfl, hasc, hmem, hsl, hcut, hb3⟩
  obtain ⟨sa, scap, rfl, hk1, hk2, hk3, hin⟩ := hcut
  have howned : Owned w3.heap.size w3 (.slice none 0 0) (dd s 0) := ⟨[], World.ownsRow_nil _ _ _ _, fun j h => absurd h (Nat.not_lt_zero _)⟩
  have HOW := Lib.hid howned
  have HIN := Lib.hid hin
  have HB3 := Lib.hid hb3
  have HSL := Lib.hid hsl
  have HSR := Lib.hid (asc0_srt hasc)
  have HME := Lib.hid hmem
  have hN : rows.length ≤ 100000 := hn
  generalize hNN : s.length = N at hk1 hk3
  have HNN := Lib.hid hNN
  have HN2 : Hid (N ≤ 100000) := by show _ ≤ _; omega
  clear hin hb3 hsl hasc hmem howned hNN hN hn HS
  go_wp2_with fail
  go_loopw [3, 5, 9] (fun v _ c wr => ∃ k : Nat, k ≤ N ∧ c = .int .i64 k ∧ Owned w3.heap.size wr v (dd s k) ∧ Below w3.heap.size w3 wr) (fun _ _ c _ => N - (intOf c).toNat)
  case atStart => exact ⟨0, by omega, rfl, HOW.out, Below.refl _ _⟩
  case round =>
    obtain ⟨k, hk, rfl, ho, hb⟩ := hrel
    have hN2 : N ≤ 100000 := HN2.out
    by_cases hlt : k < N
    · have hls : k < s.length := by rw [HNN.out]; exact hlt
      obtain ⟨sb, so, rfl, hri⟩ := HIN.out.resolve_left (by rintro rfl; simp at hls)
      obtain ⟨u, hu, hru⟩ := (hri.later hb).at_ k hls
      have hblk : sb < wr.heap.size := (hri.later hb).blk
      obtain ⟨ua, uc, rfl, -, -⟩ := id hru
      have HRU := Lib.hid hru
      have hbnd : s[k].length ≤ 4398046511104 := hsm _ ((HME.out _).1 (List.getElem_mem hls))
      have HBND := Lib.hid hbnd
      have hgk : s.getD k [] = s[k] := by rw [List.getD_eq_getElem?_getD, List.getElem?_eq_getElem hls]; rfl
      have HGK := Lib.hid hgk
      have hlt' : decide ((k : Int) < (N : Int)) = true := by simp; omega
      have hwk := step_int k (by omega)
      have hdl := dd_length s k
      have hln : (dd s k).length + 1 ≤ 4398046511104 := by omega
      have HLN := Lib.hid hln
      have HB := Lib.hid hb
      by_cases h0 : k = 0
      · subst h0
        rw [Nat.add_zero] at hu
        obtain ⟨xs, hox, hix⟩ := id ho
        obtain ⟨va, vc, rfl, -, -⟩ := ho.at_ (by omega)
        have e0 : (dd s 0).length = 0 := rfl
        rw [e0] at ho hox ⊢
        have HOW0 := Lib.hid ho
        clear ho hox hix hru hri hb hbnd hgk hdl hln e0
        have HC := Lib.hid (copy_calls _ s[0] wr HRU.out)
        go_wp2_with fail
        refine HC.out.mono ?_
        rintro e w6 ⟨vu, rfl, hou, hb6⟩
        obtain ⟨xs, hox, hix⟩ := HOW0.out.later hb6
        have HOX := Lib.hid hox
        have HIX := Lib.hid hix
        have HOU := Lib.hid hou
        have HB6 := Lib.hid hb6
        have hru6 : RowAt w6 vu s[0] := .of_owned hou HBND.out
        obtain ⟨uva, uvc, rfl, -, -⟩ := hru6
        have hbase : w3.heap.size ≤ w6.heap.size := Nat.le_trans HB.out.size hb6.size
        clear hox hix hou hb6 HC
        go_wp2_with (at_builtin; go_must (refine wpList_append_own _ rfl _ _ 87 rfl w3.heap.size 88 i (.slice none 0 0) 1 24 Try.underlying87 HI.out HZ.out HSZ.out HBY.out rfl (by decide) _ 0 xs rfl (HOX.out.alloc _) ⟨w6.heap.size, 0, none⟩ 1 1 [.slice uva s[0].length uvc] rfl rfl (one_cell _ _ _) ?c2 ?c3 ?c4 ?c5 ?_))
        case c2 => intro x hx; simp at hx; subst hx; rfl
        case c3 => unfold maxLen; omega
        case c4 => omega
        case c5 => simp; omega
        intro v' w7 hown' hgrow hnil
        have HOW' := Lib.hid hown'
        have HG7 := Lib.hid hgrow
        clear hown' hgrow hnil
        go_wp2
        go_roundw
        case rel =>
          refine ⟨0 + 1, by omega, by go_num, ?_, ?_⟩
          · rw [dd_first, HGK.out]
            exact Owned.snoc (out := []) (HOX.out.alloc _) (fun j hj => absurd hj (Nat.not_lt_zero _)) ((ownsRow_mono HOU.out (HB.out.size)).alloc _) HBND.out HOW'.out HG7.out
          · exact ((HB.out.trans ((HB6.out).mono HB.out.size)).alloc hbase _).grown HG7.out (by simp; omega) (fun j hj => (HOX.out.lt j hj).1)
        case measure => simp [intOf]; omega
      · obtain ⟨j, rfl⟩ : ∃ j, k = j + 1 := ⟨k - 1, by omega⟩
        clear h0
        have hjs : j < s.length := by omega
        have hgj : s.getD j [] = s[j] := by rw [List.getD_eq_getElem?_getD, List.getElem?_eq_getElem hjs]; rfl
        have HGJ := Lib.hid hgj
        obtain ⟨L, hL⟩ := dd_last (s := s) (j + 1) (by omega)
        rw [Nat.add_sub_cancel, hgj] at hL
        have HLL := Lib.hid hL
        have hlen : (dd s (j + 1)).length = L.length + 1 := by rw [hL]; simp
        have hat := ho.at_ (by omega)
        obtain ⟨va, vc, rfl, -, hrows⟩ := hat
        obtain ⟨vb, vo, rfl, hvi⟩ := hrows.resolve_left (by rw [hL]; simp)
        obtain ⟨up, hup, hrup⟩ := hvi.at_ L.length (by omega)
        have e1 : (dd s (j + 1))[L.length] = s[j] := by simp [hL]
        rw [e1] at hrup
        obtain ⟨pa, pc, rfl, -, -⟩ := id hrup
        have hvb := hvi.blk
        have HRUP := Lib.hid hrup
        rw [hlen] at ho ⊢
        have HO := Lib.hid ho
        have HLE := Lib.hid hlen
        clear e1 hL hvi hrows
        generalize L.length = m at hup hlen HLE HO
        have hcr := refCompareRows_calls _ _ s[j] s[j + 1] wr HRUP.out HRU.out
        have hm1 : m + 1 ≤ 4398046511104 := by rw [← hlen]; omega
        have HM1 := Lib.hid hm1
        have i1 : (0 : Int) ≤ (m : Int) := by omega
        have i2 : (m : Int) < (m : Int) + 1 := by omega
        have i3 : ((m : Int) + 1 == 0) = false := by simp; omega
        have i4 : wrap64 ((m : Int) + 1 - 1) = (m : Int) := by unfold wrap64; omega
        clear hru hrup hri hb hbnd hgk hgj hdl hln hlen ho
        by_cases e : cmpR s[j] s[j + 1] = 0
        · have DDN : Hid (dd s (j + 1 + 1) = dd s (j + 1)) := dd_old (by omega) (by rw [Nat.add_sub_cancel, HGJ.out, HGK.out]; exact e)
          rw [e] at hcr
          have HCR := Lib.hid hcr
          clear hcr e
          go_wp2_with (go_at_call 82; refine HCR.out.mono ?_; rintro e w5 ⟨rfl, hg5⟩; have HG5 := Lib.hid hg5; clear hg5)
          go_roundw
          case rel => exact ⟨j + 1 + 1, by omega, by go_num, by rw [DDN.out]; exact HO.out.later HG5.out.below, HB.out.trans (HG5.out.below.mono HB.out.size)⟩
          case measure => simp [intOf]; omega
        · have DDN : Hid (dd s (j + 1 + 1) = dd s (j + 1) ++ [s.getD (j + 1) []]) := dd_new (by rw [Nat.add_sub_cancel, HGJ.out, HGK.out]; exact e)
          have hne : (cmpR s[j] s[j + 1] != 0) = true := by simpa using e
          generalize cmpR s[j] s[j + 1] = c at hcr hne
          have HCR := Lib.hid hcr
          clear hcr e
          go_wp2_with fail
          refine HCR.out.mono ?_
          rintro e w5 ⟨rfl, hg5⟩
          have HG5 := Lib.hid hg5
          clear hg5
          have HC := Lib.hid (copy_calls _ s[j + 1] w5 (HRU.out.later HG5.out.below))
          go_wp2_with fail
          refine HC.out.mono ?_
          rintro e w6 ⟨vu, rfl, hou, hb6⟩
          obtain ⟨xs, hox, hix⟩ := HO.out.later (HG5.out.below.trans (hb6.mono HG5.out.below.size))
          rw [HLE.out] at hox
          have HOX := Lib.hid hox
          have HIX := Lib.hid hix
          have HOU := Lib.hid hou
          have HB6 := Lib.hid hb6
          have hru6 : RowAt w6 vu s[j + 1] := .of_owned hou HBND.out
          obtain ⟨uva, uvc, rfl, -, -⟩ := hru6
          have hbase : w3.heap.size ≤ w6.heap.size := Nat.le_trans HB.out.size (Nat.le_trans HG5.out.below.size hb6.size)
          clear hox hix hou hb6 HC HCR i1 i2 i3 i4 hm1
          go_wp2_with (at_builtin; go_must (refine wpList_append_own _ rfl _ _ 87 rfl w3.heap.size 88 i (.slice none 0 0) 1 24 Try.underlying87 HI.out HZ.out HSZ.out HBY.out rfl (by decide) _ (m + 1) xs rfl (HOX.out.alloc _) ⟨w6.heap.size, 0, none⟩ 1 1 [.slice uva s[j + 1].length uvc] rfl rfl (one_cell _ _ _) ?c2 ?c3 ?c4 ?c5 ?_))
          case c2 => intro x hx; simp at hx; subst hx; rfl
          case c3 => have := HM1.out; have := HLN.out; have := HLE.out; unfold maxLen; omega
          case c4 => have := HLN.out; have := HLE.out; omega
          case c5 => simp; omega
          intro v' w7 hown' hgrow hnil
          have HOW' := Lib.hid hown'
          have HG7 := Lib.hid hgrow
          clear hown' hgrow hnil
          go_wp2
          go_roundw
          case rel =>
            refine ⟨j + 1 + 1, by omega, by go_num, ?_, ?_⟩
            · rw [DDN.out, HGK.out]
              have hox := HOX.out
              have how := HOW'.out
              rw [← HLE.out] at hox how
              exact Owned.snoc (hox.alloc _) (fun j hj => let ⟨u, a, b, c⟩ := HIX.out j hj; ⟨u, a, b.alloc _, c⟩) ((ownsRow_mono HOU.out (Nat.le_trans HB.out.size HG5.out.below.size)).alloc _) HBND.out how HG7.out
            · exact ((HB.out.trans ((HG5.out.below.trans (HB6.out.mono HG5.out.below.size)).mono HB.out.size)).alloc hbase _).grown HG7.out (by simp; omega) (fun j hj => (HOX.out.lt j hj).1)
          case measure => simp [intOf]; omega
    · have hkn : k = N := by omega
      subst hkn
      have hlt' : decide ((k : Int) < (k : Int)) = false := by simp
      have hfin : SetOf rows (dd s k) := by
        have := setOf_dd HSR.out HME.out
        rw [HNN.out] at this
        exact this
      have HF := Lib.hid hfin
      have HOF := Lib.hid (ho.mono (HB3.out.size))
      have HBF := Lib.hid (HB3.out.trans (hb.mono HB3.out.size))
      clear hfin ho hb
      generalize dd s k = out at HF HOF
      go_wp2
      go_ret
      exact ⟨_, _, rfl, HF.out, HOF.out, HBF.out⟩
end Go.Proofs.Ytmjokpakekfkfaa
