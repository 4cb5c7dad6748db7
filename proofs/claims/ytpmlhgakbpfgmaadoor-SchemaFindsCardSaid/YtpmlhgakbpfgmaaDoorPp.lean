/- The contracts of predicate.at at numbers, kindAt, kindOf and of the reference's kind and plain. -/
import Derived.Test.YtpmlhgakbpfgmaaDoorPb
import Derived.Test.YtpmlhgakbpfgmaaDoorPl
set_option linter.unusedSimpArgs false
set_option linter.unusedVariables false
namespace Go.Proofs.YtpmlhgakbpfgmaaDoor
open Go.RowKit

def atI (l : List Int) (i : Int) : Int := if 0 ≤ i then l.getD i.toNat 0 else 0
def hasN (l : List Int) (i : Int) : Bool := decide (0 ≤ i) && decide (i < l.length)
theorem hasN_neg {l : List Int} {i : Int} (h : i < 0) : hasN l i = false := by unfold hasN; rw [decide_eq_false (by omega)]; rfl
theorem hasN_past {l : List Int} {i : Int} (h : (l.length : Int) ≤ i) : hasN l i = false := by unfold hasN; rw [decide_eq_false (p := i < l.length) (by omega), Bool.and_false]
theorem hasN_in {l : List Int} {n : Nat} (h : n < l.length) : hasN l n = true := by unfold hasN; rw [decide_eq_true (by omega), decide_eq_true (by omega)]; rfl
theorem atI_neg {l : List Int} {i : Int} (h : i < 0) : atI l i = 0 := by unfold atI; rw [if_neg (by omega)]
theorem atI_past {l : List Int} {i : Int} (h : (l.length : Int) ≤ i) : atI l i = 0 := by
  unfold atI
  by_cases h0 : 0 ≤ i
  · rw [if_pos h0, List.getD_eq_getElem?_getD, List.getElem?_eq_none (by omega)]; rfl
  · rw [if_neg h0]
theorem atI_in {l : List Int} {i : Nat} (h : i < l.length) : atI l i = l[i] := by unfold atI; rw [if_pos (by omega)]; simp [h]
theorem kAt_eq (ks : List Int) (o : Od) : kAt ks o = if hasN ks o.i = true ∧ o.v = nilV then atI ks o.i else 0 := by
  unfold kAt hasN atI
  by_cases h : 0 ≤ o.i ∧ o.i < ks.length ∧ o.v = nilV
  · rw [if_pos h, if_pos ⟨by simp [h.1, h.2.1], h.2.2⟩, if_pos h.1]
  · rw [if_neg h, if_neg]
    simp only [Bool.and_eq_true, decide_eq_true_eq]
    intro h'; exact h ⟨h'.1.1, h'.1.2, h'.2⟩
def AtIOut (l : List Int) (i : Int) (w : World) (e : Ending) (w' : World) : Prop := e = .returned (.tuple #[.int .i64 (atI l i), .bool (hasN l i)]) ∧ Gro w w'
theorem atig {l : List Int} {i x : Int} {b : Bool} {w w' : World} (h1 : x = atI l i) (h2 : b = hasN l i) (hg : Gro w w') : AtIOut l i w (.returned (.tuple #[.int .i64 x, .bool b])) w' := by subst h1 h2; exact ⟨rfl, hg⟩
set_option maxHeartbeats 1000000 in
set_option maxRecDepth 100000 in
theorem ati_calls (S : Nat → Prop) (v : Value) (l : List Int) (i : Int) (w : World) (hp : IntsAt S w v l) : Calls Tryd.prog 97 #[v, .int .i64 i] w (AtIOut l i w) := by
  have HP := Lib.hid hp
  obtain ⟨a, cap, rfl, hl⟩ := hp.slice
  clear hp
  obtain ⟨N, hN⟩ : ∃ N, l.length = N := ⟨_, rfl⟩
  rw [hN] at hl HP ⊢
  have HN := Lib.hid hN
  clear hN
  by_cases h0 : i < 0
  · have HE : Hid (0 = atI l i ∧ false = hasN l i) := ⟨(atI_neg h0).symm, (hasN_neg h0).symm⟩
    have hd : decide (i < 0) = true := by simpa using h0
    go_enter Tryd.func97, Tryd.ntmps97
    go_wp2
    exact bodyPost_ret (v := .tuple #[.int .i64 0, .bool false]) (by simp [results, Tryd.results97, go_sem]; try rfl) rfl (atig HE.out.1 HE.out.2 (Gro.refl _))
  by_cases h1 : (N : Int) ≤ i
  · have HE : Hid (0 = atI l i ∧ false = hasN l i) := ⟨(atI_past (by rw [HN.out]; exact h1)).symm, (hasN_past (by rw [HN.out]; exact h1)).symm⟩
    have hd : decide (i < 0) = false := by simpa using h0
    have hd1 : decide ((N : Int) ≤ i) = true := by simpa using h1
    go_enter Tryd.func97, Tryd.ntmps97
    go_wp2
    exact bodyPost_ret (v := .tuple #[.int .i64 0, .bool false]) (by simp [results, Tryd.results97, go_sem]; try rfl) rfl (atig HE.out.1 HE.out.2 (Gro.refl _))
  · obtain ⟨n, rfl⟩ : ∃ n : Nat, i = n := ⟨i.toNat, by omega⟩
    have hn : n < l.length := by rw [HN.out]; omega
    obtain ⟨b, off, rfl, hb, -, d0⟩ := HP.out.get hn
    obtain ⟨x, hx⟩ : ∃ x, l[n] = x := ⟨_, rfl⟩
    rw [hx] at d0
    have HE : Hid (x = atI l n ∧ true = hasN l n) := ⟨by rw [atI_in hn, hx], (hasN_in hn).symm⟩
    have hd : decide ((n : Int) < 0) = false := by simp
    have hd1 : decide ((N : Int) ≤ n) = false := by simp; omega
    have hnN : (n : Int) < (N : Int) := by omega
    clear HP hx hn
    go_enter Tryd.func97, Tryd.ntmps97
    go_wp2
    exact bodyPost_ret (v := .tuple #[.int .i64 x, .bool true]) (by simp [results, Tryd.results97, go_sem]; try rfl) rfl (atig HE.out.1 HE.out.2 (Gro.refl _))
/-- The cells of an operand's box. -/
structure OBox (w : World) (g : Nat) (k i vk vn : Int) (t : ByteArray) : Prop where
  l : g < w.heap.size
  c0 : w.cell? ⟨g, 0, none⟩ = some (.int .i64 k)
  c1 : w.cell? ⟨g, 1, none⟩ = some (.int .i64 i)
  c2 : w.cell? ⟨g, 2, none⟩ = some (.int .i64 vk)
  c3 : w.cell? ⟨g, 3, none⟩ = some (.int .i64 vn)
  c4 : w.cell? ⟨g, 4, none⟩ = some (.string t)
abbrev oObj (k i vk vn : Int) (t : ByteArray) : Obj := .cells #[.int .i64 k, .int .i64 i, .int .i64 vk, .int .i64 vn, .string t] 58
theorem OBox.new (w : World) (k i vk vn : Int) (t : ByteArray) : OBox (w.alloc (oObj k i vk vn t)) w.heap.size k i vk vn t := ⟨by simp, by go_simp, by go_simp, by go_simp, by go_simp, by go_simp⟩
theorem OBox.later {w w' : World} {g : Nat} {k i vk vn : Int} {t : ByteArray} (h : OBox w g k i vk vn t) (hw : Below w.heap.size w w') : OBox w' g k i vk vn t :=
  have hc : ∀ o, w'.cell? ⟨g, o, none⟩ = w.cell? ⟨g, o, none⟩ := fun o => hw.cell (p := ⟨g, o, none⟩) h.l
  ⟨Nat.lt_of_lt_of_le h.l hw.size, (hc _).trans h.c0, (hc _).trans h.c1, (hc _).trans h.c2, (hc _).trans h.c3, (hc _).trans h.c4⟩
set_option maxHeartbeats 2000000 in
set_option maxRecDepth 100000 in
theorem kindAt_calls (S : Nat → Prop) (v : Value) (l : List Int) (o : Od) (w : World) (hp : IntsAt S w v l) : Calls Tryd.prog 89 #[v, o.val] w (IntG (kAt l o) w) := by
  obtain ⟨k, i, ⟨vk, vn, t⟩⟩ := o
  have HK : Hid (kAt l ⟨k, i, ⟨vk, vn, t⟩⟩ = if hasN l i = true ∧ (⟨vk, vn, t⟩ : V) = nilV then atI l i else 0) := kAt_eq l ⟨k, i, ⟨vk, vn, t⟩⟩
  obtain ⟨res, hres⟩ : ∃ res, kAt l ⟨k, i, ⟨vk, vn, t⟩⟩ = res := ⟨_, rfl⟩
  rw [hres] at HK ⊢
  clear hres
  show Calls _ _ #[v, .agg #[.int .i64 k, .int .i64 i, .int .i64 vk, .int .i64 vn, .string t]] _ _
  obtain ⟨W, hW⟩ : ∃ W, W = w.alloc (oObj k i vk vn t) := ⟨_, rfl⟩
  have hg : Gro w W := by rw [hW]; exact (Gro.refl w).alloc _
  have HA : Hid (Calls Tryd.prog 97 #[v, .int .i64 i] W (fun e w' => e = .returned (.tuple #[.int .i64 (atI l i), .bool (hasN l i)]) ∧ Gro W w')) := ati_calls S v l i W (hp.later hg.below)
  have hB : OBox W w.heap.size k i vk vn t := by rw [hW]; exact OBox.new w k i vk vn t
  obtain ⟨a, cap, rfl, -⟩ := hp.slice
  have HB := Lib.hid hB
  have HG := Lib.hid hg
  have HW := Lib.hid hW
  obtain ⟨q0, q1, q2, q3, q4, q5⟩ := hB
  have hne := fun w => neqv_V vk vn 0 0 t ⟨#[]⟩ w
  have HZ : Hid (decide ((⟨vk, vn, t⟩ : V) = ⟨0, 0, ⟨#[]⟩⟩) = decide ((⟨vk, vn, t⟩ : V) = nilV)) := rfl
  rw [HZ.out] at hne
  clear hg hW hp
  generalize hasN l i = h at HA HK
  generalize atI l i = x at HA HK
  obtain ⟨z, hz⟩ : ∃ z, decide ((⟨vk, vn, t⟩ : V) = nilV) = z := ⟨_, rfl⟩
  rw [hz] at hne
  have HZZ := Lib.hid hz
  clear hz HZ
  go_enter Tryd.func89, Tryd.ntmps89
  go_wp2_with fail
  rw [← HW.out]
  refine HA.out.mono ?_
  rintro e w2 ⟨rfl, hg2⟩
  obtain ⟨q0, q1, q2, q3, q4, q5⟩ := HB.out.later hg2.below
  have HG2 := Lib.hid (HG.out.trans hg2)
  clear hg2 HB HW HA
  generalize w.heap.size = gb at q0 q1 q2 q3 q4 q5 ⊢
  cases h with
  | false =>
    have HX : Hid (0 = res) := by show _ = _; rw [HK.out, if_neg (by simp)]
    clear hne
    go_wp2
    go_ret
    exact intg HX.out HG2.out
  | true =>
    cases z with
    | false =>
      have HX : Hid (0 = res) := by show _ = _; rw [HK.out, if_neg (fun h => by have := HZZ.out; rw [decide_eq_true h.2] at this; cases this)]
      go_wp2
      go_ret
      exact intg HX.out HG2.out
    | true =>
      have HX : Hid (x = res) := by show _ = _; rw [HK.out, if_pos ⟨rfl, of_decide_eq_true HZZ.out⟩]
      go_wp2
      go_ret
      exact intg HX.out HG2.out
set_option maxHeartbeats 2000000 in
set_option maxRecDepth 100000 in
theorem kindOf_calls (S S' : Nat → Prop) (vc vp : Value) (cols par : List Int) (o : Od) (w : World) (hc : IntsAt S w vc cols) (hp : IntsAt S' w vp par) : Calls Tryd.prog 87 #[o.val, vc, vp] w (IntG (kindO cols par o) w) := by
  obtain ⟨k, i, ⟨vk, vn, t⟩⟩ := o
  have HKO : Hid (kindO cols par ⟨k, i, ⟨vk, vn, t⟩⟩ = if k = 1 then kAt cols ⟨k, i, ⟨vk, vn, t⟩⟩ else if k = 2 then kAt par ⟨k, i, ⟨vk, vn, t⟩⟩ else if k = 3 then (if i = 0 ∧ realB ⟨vk, vn, t⟩ = true then vk else 0) else 0) := rfl
  obtain ⟨res, hres⟩ : ∃ res, kindO cols par ⟨k, i, ⟨vk, vn, t⟩⟩ = res := ⟨_, rfl⟩
  rw [hres] at HKO ⊢
  clear hres
  show Calls _ _ #[.agg #[.int .i64 k, .int .i64 i, .int .i64 vk, .int .i64 vn, .string t], vc, vp] _ _
  obtain ⟨W, hW⟩ : ∃ W, W = w.alloc (oObj k i vk vn t) := ⟨_, rfl⟩
  have hg : Gro w W := by rw [hW]; exact (Gro.refl w).alloc _
  have hB : OBox W w.heap.size k i vk vn t := by rw [hW]; exact OBox.new w k i vk vn t
  have HC := Lib.hid (kindAt_calls S vc cols ⟨k, i, ⟨vk, vn, t⟩⟩ W (hc.later hg.below))
  have HP := Lib.hid (kindAt_calls S' vp par ⟨k, i, ⟨vk, vn, t⟩⟩ W (hp.later hg.below))
  have HR := Lib.hid (fun w' => real_calls ⟨vk, vn, t⟩ w')
  obtain ⟨a, cap, rfl, -⟩ := hc.slice
  obtain ⟨a', cap', rfl, -⟩ := hp.slice
  have HB := Lib.hid hB
  have HG := Lib.hid hg
  have HW := Lib.hid hW
  obtain ⟨q0, q1, q2, q3, q4, q5⟩ := hB
  clear hg hW hc hp
  generalize kAt cols ⟨k, i, ⟨vk, vn, t⟩⟩ = x at HC HKO
  generalize kAt par ⟨k, i, ⟨vk, vn, t⟩⟩ = y at HP HKO
  generalize realB ⟨vk, vn, t⟩ = r at HR HKO
  by_cases h1 : k = 1
  · subst h1
    have HX : Hid (x = res) := HKO.out.symm
    go_enter Tryd.func87, Tryd.ntmps87
    go_wp2_with fail
    rw [← HW.out]
    refine HC.out.mono ?_
    rintro e w2 ⟨rfl, hg2⟩
    have HG2 := Lib.hid (HG.out.trans hg2)
    clear hg2
    go_wp2
    go_ret
    exact intg HX.out HG2.out
  rw [if_neg h1] at HKO
  by_cases h2 : k = 2
  · subst h2
    have HX : Hid (y = res) := HKO.out.symm
    go_enter Tryd.func87, Tryd.ntmps87
    go_wp2_with fail
    rw [← HW.out]
    refine HP.out.mono ?_
    rintro e w2 ⟨rfl, hg2⟩
    have HG2 := Lib.hid (HG.out.trans hg2)
    clear hg2
    go_wp2
    go_ret
    exact intg HX.out HG2.out
  rw [if_neg h2] at HKO
  by_cases h3 : k = 3
  · subst h3
    by_cases h0 : i = 0
    · subst h0
      go_enter Tryd.func87, Tryd.ntmps87
      go_wp2_with fail
      rw [← HW.out]
      refine (HR.out W).mono ?_
      rintro e w2 ⟨rfl, hg2⟩
      obtain ⟨q0, q1, q2, q3, q4, q5⟩ := HB.out.later hg2.below
      have HG2 := Lib.hid (HG.out.trans hg2)
      clear hg2 HB HW
      generalize w.heap.size = gb at q0 q1 q2 q3 q4 q5 ⊢
      cases r with
      | false =>
        have HX : Hid (0 = res) := by show _ = _; rw [HKO.out]; simp
        go_wp2
        go_ret
        exact intg HX.out HG2.out
      | true =>
        have HX : Hid (vk = res) := by show _ = _; rw [HKO.out]; simp
        go_wp2
        go_ret
        exact intg HX.out HG2.out
    · have HX : Hid (0 = res) := by show _ = _; rw [HKO.out, if_pos rfl, if_neg (fun h => h0 h.1)]
      have hi : (i == 0) = false := by simpa using h0
      go_enter Tryd.func87, Tryd.ntmps87
      go_wp2
      go_ret
      rw [← HW.out]
      exact intg HX.out HG.out
  rw [if_neg h3] at HKO
  have HX : Hid (0 = res) := HKO.out.symm
  go_enter Tryd.func87, Tryd.ntmps87
  go_wp2
  go_ret
  rw [← HW.out]
  exact intg HX.out HG.out
end Go.Proofs.YtpmlhgakbpfgmaaDoor
/- The contracts of the reference's kind, plain and valid. -/
set_option linter.unusedSimpArgs false
set_option linter.unusedVariables false
namespace Go.Proofs.YtpmlhgakbpfgmaaDoor
open Go.RowKit

set_option maxHeartbeats 4000000 in
set_option maxRecDepth 100000 in
theorem refKind_calls (S S' : Nat → Prop) (vc vp : Value) (cols par : List Int) (o : Od) (w : World) (hc : IntsAt S w vc cols) (hp : IntsAt S' w vp par) : Calls Tryd.prog 61 #[vc, vp, o.val] w (IntG (kindO cols par o) w) := by
  obtain ⟨k, i, ⟨vk, vn, t⟩⟩ := o
  have HKO : Hid (kindO cols par ⟨k, i, ⟨vk, vn, t⟩⟩ = if k = 1 then kAt cols ⟨k, i, ⟨vk, vn, t⟩⟩ else if k = 2 then kAt par ⟨k, i, ⟨vk, vn, t⟩⟩ else if k = 3 then (if i = 0 ∧ realB ⟨vk, vn, t⟩ = true then vk else 0) else 0) := rfl
  obtain ⟨res, hres⟩ : ∃ res, kindO cols par ⟨k, i, ⟨vk, vn, t⟩⟩ = res := ⟨_, rfl⟩
  rw [hres] at HKO ⊢
  clear hres
  show Calls _ _ #[vc, vp, .agg #[.int .i64 k, .int .i64 i, .int .i64 vk, .int .i64 vn, .string t]] _ _
  obtain ⟨W, hW⟩ : ∃ W, W = w.alloc (oObj k i vk vn t) := ⟨_, rfl⟩
  have hg : Gro w W := by rw [hW]; exact (Gro.refl w).alloc _
  have hB : OBox W w.heap.size k i vk vn t := by rw [hW]; exact OBox.new w k i vk vn t
  have HC := Lib.hid (hc.later hg.below)
  have HP := Lib.hid (hp.later hg.below)
  have HR := Lib.hid (fun w' => refReal_calls ⟨vk, vn, t⟩ w')
  obtain ⟨a, cap, rfl, hl⟩ := hc.slice
  obtain ⟨a', cap', rfl, hl'⟩ := hp.slice
  have HB := Lib.hid hB
  have HG := Lib.hid hg
  have HW := Lib.hid hW
  obtain ⟨q0, q1, q2, q3, q4, q5⟩ := hB
  have hne := fun w => neqv_V vk vn 0 0 t ⟨#[]⟩ w
  have HZ : Hid (decide ((⟨vk, vn, t⟩ : V) = ⟨0, 0, ⟨#[]⟩⟩) = decide ((⟨vk, vn, t⟩ : V) = nilV)) := rfl
  rw [HZ.out] at hne
  obtain ⟨z, hz⟩ : ∃ z, decide ((⟨vk, vn, t⟩ : V) = nilV) = z := ⟨_, rfl⟩
  rw [hz] at hne
  have HZZ := Lib.hid hz
  clear hg hW hc hp hz HZ
  by_cases h3 : k = 3
  · subst h3
    replace HKO : Hid (res = if i = 0 ∧ realB ⟨vk, vn, t⟩ = true then vk else 0) := HKO.out
    generalize realB ⟨vk, vn, t⟩ = r at HR HKO
    by_cases h0 : i = 0
    · subst h0
      go_enter Tryd.func61, Tryd.ntmps61
      go_wp2_with fail
      rw [← HW.out]
      refine (HR.out W).mono ?_
      rintro e w2 ⟨rfl, hg2⟩
      obtain ⟨q0, q1, q2, q3, q4, q5⟩ := HB.out.later hg2.below
      have HG2 := Lib.hid (HG.out.trans hg2)
      clear hg2 HB HW
      generalize w.heap.size = gb at q0 q1 q2 q3 q4 q5 ⊢
      cases r with
      | false =>
        have HX : Hid (0 = res) := by show _ = _; rw [HKO.out]; simp
        go_wp2
        go_ret
        exact intg HX.out HG2.out
      | true =>
        have HX : Hid (vk = res) := by show _ = _; rw [HKO.out]; simp
        go_wp2
        go_ret
        exact intg HX.out HG2.out
    · have HX : Hid (0 = res) := by show _ = _; rw [HKO.out, if_neg (fun h => h0 h.1)]
      have hi : (i == 0) = false := by simpa using h0
      go_enter Tryd.func61, Tryd.ntmps61
      go_wp2
      go_ret
      rw [← HW.out]
      exact intg HX.out HG.out
  by_cases h2 : k = 2
  · subst h2
    replace HKO : Hid (res = kAt par ⟨2, i, ⟨vk, vn, t⟩⟩) := HKO.out
    rw [kAt_eq] at HKO
    replace HKO : Hid (res = if hasN par i = true ∧ (⟨vk, vn, t⟩ : V) = nilV then atI par i else 0) := HKO.out
    obtain ⟨N, hN⟩ : ∃ N, par.length = N := ⟨_, rfl⟩
    rw [hN] at hl' HP ⊢
    have HN := Lib.hid hN
    clear hN
    by_cases hi0 : i < 0
    · have HX : Hid (0 = res) := by show _ = _; rw [HKO.out, hasN_neg hi0]; simp
      have hd : decide (i < 0) = true := by simpa using hi0
      clear HKO
      go_enter Tryd.func61, Tryd.ntmps61
      go_wp2
      go_ret
      rw [← HW.out]
      exact intg HX.out HG.out
    by_cases hi1 : (N : Int) ≤ i
    · have HX : Hid (0 = res) := by show _ = _; rw [HKO.out, hasN_past (by rw [HN.out]; exact hi1)]; simp
      have hd : decide (i < 0) = false := by simpa using hi0
      have hd1 : decide ((N : Int) ≤ i) = true := by simpa using hi1
      clear HKO
      go_enter Tryd.func61, Tryd.ntmps61
      go_wp2
      go_ret
      rw [← HW.out]
      exact intg HX.out HG.out
    obtain ⟨n, rfl⟩ : ∃ n : Nat, i = n := ⟨i.toNat, by omega⟩
    have hn : n < par.length := by rw [HN.out]; omega
    obtain ⟨b, off, rfl, hb, -, d0⟩ := HP.out.get hn
    obtain ⟨x, hx⟩ : ∃ x, par[n] = x := ⟨_, rfl⟩
    rw [hx] at d0
    rw [hasN_in hn, atI_in hn, hx] at HKO
    have hd : decide ((n : Int) < 0) = false := by simp
    have hd1 : decide ((N : Int) ≤ n) = false := by simp; omega
    have hnN : (n : Int) < (N : Int) := by omega
    clear hx hn
    have hWe := HW.out
    cases z with
    | false =>
      have HX : Hid (0 = res) := by show _ = _; rw [HKO.out, if_neg (fun h => by have := HZZ.out; rw [decide_eq_true h.2] at this; cases this)]
      clear HKO hWe
      go_enter Tryd.func61, Tryd.ntmps61
      go_wp2
      go_ret
      rw [← HW.out]
      exact intg HX.out HG.out
    | true =>
      have HX : Hid (x = res) := by show _ = _; rw [HKO.out, if_pos ⟨rfl, of_decide_eq_true HZZ.out⟩]
      clear HKO HW HC HP HB HR
      subst hWe
      go_enter Tryd.func61, Tryd.ntmps61
      go_wp2
      go_ret
      exact intg HX.out HG.out
  by_cases h1 : k = 1
  · subst h1
    replace HKO : Hid (res = kAt cols ⟨1, i, ⟨vk, vn, t⟩⟩) := HKO.out
    rw [kAt_eq] at HKO
    replace HKO : Hid (res = if hasN cols i = true ∧ (⟨vk, vn, t⟩ : V) = nilV then atI cols i else 0) := HKO.out
    obtain ⟨N, hN⟩ : ∃ N, cols.length = N := ⟨_, rfl⟩
    rw [hN] at hl HC ⊢
    have HN := Lib.hid hN
    clear hN
    by_cases hi0 : i < 0
    · have HX : Hid (0 = res) := by show _ = _; rw [HKO.out, hasN_neg hi0]; simp
      have hd : decide (i < 0) = true := by simpa using hi0
      clear HKO
      go_enter Tryd.func61, Tryd.ntmps61
      go_wp2
      go_ret
      rw [← HW.out]
      exact intg HX.out HG.out
    by_cases hi1 : (N : Int) ≤ i
    · have HX : Hid (0 = res) := by show _ = _; rw [HKO.out, hasN_past (by rw [HN.out]; exact hi1)]; simp
      have hd : decide (i < 0) = false := by simpa using hi0
      have hd1 : decide ((N : Int) ≤ i) = true := by simpa using hi1
      clear HKO
      go_enter Tryd.func61, Tryd.ntmps61
      go_wp2
      go_ret
      rw [← HW.out]
      exact intg HX.out HG.out
    obtain ⟨n, rfl⟩ : ∃ n : Nat, i = n := ⟨i.toNat, by omega⟩
    have hn : n < cols.length := by rw [HN.out]; omega
    obtain ⟨b, off, rfl, hb, -, d0⟩ := HC.out.get hn
    obtain ⟨x, hx⟩ : ∃ x, cols[n] = x := ⟨_, rfl⟩
    rw [hx] at d0
    rw [hasN_in hn, atI_in hn, hx] at HKO
    have hd : decide ((n : Int) < 0) = false := by simp
    have hd1 : decide ((N : Int) ≤ n) = false := by simp; omega
    have hnN : (n : Int) < (N : Int) := by omega
    clear hx hn
    have hWe := HW.out
    cases z with
    | false =>
      have HX : Hid (0 = res) := by show _ = _; rw [HKO.out, if_neg (fun h => by have := HZZ.out; rw [decide_eq_true h.2] at this; cases this)]
      clear HKO hWe
      go_enter Tryd.func61, Tryd.ntmps61
      go_wp2
      go_ret
      rw [← HW.out]
      exact intg HX.out HG.out
    | true =>
      have HX : Hid (x = res) := by show _ = _; rw [HKO.out, if_pos ⟨rfl, of_decide_eq_true HZZ.out⟩]
      clear HKO HW HC HP HB HR
      subst hWe
      go_enter Tryd.func61, Tryd.ntmps61
      go_wp2
      go_ret
      exact intg HX.out HG.out
  have HX : Hid (0 = res) := by show _ = _; rw [HKO.out, if_neg h1, if_neg h2, if_neg h3]
  go_enter Tryd.func61, Tryd.ntmps61
  go_wp2
  go_ret
  rw [← HW.out]
  exact intg HX.out HG.out
theorem plainB_eq (cmp lk li lvk lvn rk ri rvk rvn : Int) (lvt rvt : ByteArray) : plainB cmp ⟨lk, li, ⟨lvk, lvn, lvt⟩⟩ ⟨rk, ri, ⟨rvk, rvn, rvt⟩⟩ = (decide (cmp = 0) && eqO ⟨lk, li, ⟨lvk, lvn, lvt⟩⟩ ⟨0, 0, ⟨0, 0, ⟨#[]⟩⟩⟩ && eqO ⟨rk, ri, ⟨rvk, rvn, rvt⟩⟩ ⟨0, 0, ⟨0, 0, ⟨#[]⟩⟩⟩) := by
  have h : ∀ (k i : Int) (v : V), decide (k = 0 ∧ i = 0 ∧ v = nilV) = eqO ⟨k, i, v⟩ ⟨0, 0, ⟨0, 0, ⟨#[]⟩⟩⟩ := fun k i v => by
    rw [Bool.eq_iff_iff]; unfold eqO nilV; simp only [Bool.and_eq_true, decide_eq_true_eq, and_assoc]
  unfold plainB
  rw [h, h]
set_option maxHeartbeats 2000000 in
set_option maxRecDepth 100000 in
theorem plain_calls (p : Pr) (sa : Option Addr) (sn sc : Nat) (w : World) : Calls Tryd.prog 60 #[p.val (.slice sa sn sc)] w (BoolG (plainB p.cmp p.l p.r) w) := by
  have mx := mixed
  obtain ⟨op, cmp, ⟨lk, li, ⟨lvk, lvn, lvt⟩⟩, ⟨rk, ri, ⟨rvk, rvn, rvt⟩⟩, args⟩ := p
  show Calls _ _ #[.agg #[.int .i64 op, .int .i64 cmp, .int .i64 lk, .int .i64 li, .int .i64 lvk, .int .i64 lvn, .string lvt, .int .i64 rk, .int .i64 ri, .int .i64 rvk, .int .i64 rvn, .string rvt, .slice sa sn sc]] _ (BoolG (plainB cmp ⟨lk, li, ⟨lvk, lvn, lvt⟩⟩ ⟨rk, ri, ⟨rvk, rvn, rvt⟩⟩) w)
  rw [plainB_eq]
  have he1 := fun w => eql_O lk li lvk lvn 0 0 0 0 lvt ⟨#[]⟩ w
  have he2 := fun w => eql_O rk ri rvk rvn 0 0 0 0 rvt ⟨#[]⟩ w
  have HG := Lib.hid (fun (O : Obj) => (Gro.refl w).alloc O)
  generalize eqO ⟨lk, li, ⟨lvk, lvn, lvt⟩⟩ ⟨0, 0, ⟨0, 0, ⟨#[]⟩⟩⟩ = x at he1 ⊢
  generalize eqO ⟨rk, ri, ⟨rvk, rvn, rvt⟩⟩ ⟨0, 0, ⟨0, 0, ⟨#[]⟩⟩⟩ = y at he2 ⊢
  by_cases h : cmp = 0
  · subst h
    rw [show decide ((0 : Int) = 0) = true from rfl, Bool.true_and]
    cases x with
    | false =>
      go_enter Tryd.func60, Tryd.ntmps60
      go_wp2
      go_ret
      exact boolg rfl (HG.out _)
    | true =>
      go_enter Tryd.func60, Tryd.ntmps60
      go_wp2
      go_ret
      exact boolg rfl (HG.out _)
  · have hc : (cmp == 0) = false := by simpa using h
    rw [decide_eq_false h, Bool.false_and, Bool.false_and]
    clear he1 he2
    go_enter Tryd.func60, Tryd.ntmps60
    go_wp2
    go_ret
    exact boolg rfl (HG.out _)
end Go.Proofs.YtpmlhgakbpfgmaaDoor
