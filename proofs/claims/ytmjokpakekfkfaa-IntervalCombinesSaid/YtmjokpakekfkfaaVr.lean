/- The contracts of interval.Has and Least, of the references In, Has and Least. -/
import Derived.Test.YtmjokpakekfkfaaVd
import Derived.Test.YtmjokpakekfkfaaVe
import Derived.Test.YtmjokpakekfkfaaVg
import Derived.Test.YtmjokpakekfkfaaVh
set_option linter.unusedSimpArgs false
set_option linter.unusedVariables false
namespace Go.Proofs.Ytmjokpakekfkfaa
open Go.RowKit

theorem box7_two (w : World) (x : I) (T : TypeId) (m : Nat) (os : Array Obj) : IAt (Sort.grow ((w.alloc (iObj x T)).drewN m) os) w.heap.size 0 x := box7 w x T m os
/-- The closure of Has. -/
theorem has_fn (x : I) (v : V) (gv : Nat) (w : World) (hv : At w gv 0 v) (hl : gv < w.heap.size) : Calls Try.prog 42 #[x.val, .pointer (some ⟨gv, 0, none⟩)] w fun e w' => e = .returned (.bool (inI x v)) ∧ Gro w w' := by
  obtain ⟨⟨fk, fn, ft⟩, ⟨tk, tn, tt⟩, o⟩ := x
  obtain ⟨vk, vn, vt⟩ := v
  obtain ⟨a0, a1, a2⟩ := hv
  simp only [Nat.zero_add] at a0 a1 a2
  have HC1 := Lib.hid (fun w' => compare_calls ⟨fk, fn, ft⟩ ⟨vk, vn, vt⟩ w')
  have HC2 := Lib.hid (fun w' => compare_calls ⟨vk, vn, vt⟩ ⟨tk, tn, tt⟩ w')
  obtain ⟨d1, h1⟩ : ∃ d, cmpV ⟨fk, fn, ft⟩ ⟨vk, vn, vt⟩ = d := ⟨_, rfl⟩
  obtain ⟨d2, h2⟩ : ∃ d, cmpV ⟨vk, vn, vt⟩ ⟨tk, tn, tt⟩ = d := ⟨_, rfl⟩
  rw [h1] at HC1
  rw [h2] at HC2
  have HI : Hid (inI ⟨⟨fk, fn, ft⟩, ⟨tk, tn, tt⟩, o⟩ ⟨vk, vn, vt⟩ = (decide (d1 ≤ 0) && (o || decide (d2 < 0)))) := by show _ = _; unfold inI; simp only [h1, h2]
  obtain ⟨W, hW⟩ : ∃ W, W = w.alloc (iObj ⟨⟨fk, fn, ft⟩, ⟨tk, tn, tt⟩, o⟩ 57) := ⟨_, rfl⟩
  have hB : IAt W w.heap.size 0 ⟨⟨fk, fn, ft⟩, ⟨tk, tn, tt⟩, o⟩ := by rw [hW]; exact ⟨⟨by go_simp, by go_simp, by go_simp⟩, by go_simp, by go_simp, by go_simp, by go_simp⟩
  have hlB : w.heap.size < W.heap.size := by rw [hW]; simp
  have hgW : Gro w W := by rw [hW]; exact (Gro.refl _).alloc _
  have a0' := (hgW.below.cell (p := ⟨gv, 0, none⟩) hl).trans a0
  have a1' := (hgW.below.cell (p := ⟨gv, 1, none⟩) hl).trans a1
  have a2' := (hgW.below.cell (p := ⟨gv, 2, none⟩) hl).trans a2
  have hl' := Nat.lt_of_lt_of_le hl hgW.size
  have HGW := Lib.hid hgW
  have HWE := Lib.hid hW
  have c0 := hB.f.k
  have c1 := hB.f.n
  have c2 := hB.f.t
  have c3 := hB.t0
  have c4 := hB.t1
  have c5 := hB.t2
  have c6 := hB.o
  simp only [Nat.zero_add] at c0 c1 c2 c3 c4 c5 c6
  clear h1 h2 hW hgW hB
  by_cases hd : d1 ≤ 0
  · have HD : Hid (decide (d1 ≤ 0) = true) := by show _ = _; simpa using hd
    cases o
    · by_cases he : d2 < 0
      · have HE : Hid (decide (d2 < 0) = true) := by show _ = _; simpa using he
        go_enter Try.func42, Try.ntmps42
        go_wp2_with fail
        rw [← HWE.out]
        refine (wide (HC1.out W)).mono ?_
        rintro e w' ⟨q1, os1, rfl, rfl⟩
        go_wp2_with fail
        refine (wide (HC2.out _)).mono ?_
        rintro e w' ⟨q1, os1, rfl, rfl⟩
        go_wp2
        go_ret
        exact ⟨ret_b (by rw [HI.out, HD.out, HE.out]; rfl), HGW.out.grown _ _⟩
      · have HE : Hid (decide (d2 < 0) = false) := by show _ = _; simpa using he
        go_enter Try.func42, Try.ntmps42
        go_wp2_with fail
        rw [← HWE.out]
        refine (wide (HC1.out W)).mono ?_
        rintro e w' ⟨q1, os1, rfl, rfl⟩
        go_wp2_with fail
        refine (wide (HC2.out _)).mono ?_
        rintro e w' ⟨q1, os1, rfl, rfl⟩
        go_wp2
        go_ret
        exact ⟨ret_b (by rw [HI.out, HD.out, HE.out]; rfl), HGW.out.grown _ _⟩
    · go_enter Try.func42, Try.ntmps42
      go_wp2_with fail
      rw [← HWE.out]
      refine (wide (HC1.out W)).mono ?_
      rintro e w' ⟨q1, os1, rfl, rfl⟩
      go_wp2
      go_ret
      exact ⟨ret_b (by rw [HI.out, HD.out]; rfl), HGW.out.grown _ _⟩
  · have HD : Hid (decide (d1 ≤ 0) = false) := by show _ = _; simpa using hd
    go_enter Try.func42, Try.ntmps42
    go_wp2_with fail
    rw [← HWE.out]
    refine (wide (HC1.out W)).mono ?_
    rintro e w' ⟨q1, os1, rfl, rfl⟩
    go_wp2
    go_ret
    exact ⟨ret_b (by rw [HI.out, HD.out]; rfl), HGW.out.grown _ _⟩
theorem inB_take {l : List I} {v : V} {k : Nat} (h : inB (l.take k) v = false) (hk : k < l.length) : inB (l.take (k + 1)) v = inI l[k] v := by
  rw [List.take_succ_eq_append_getElem hk]
  unfold inB at h ⊢
  rw [List.any_append, h]; simp
/-- Whether some interval holds the value: an index, or -1. -/
def IdxOut (l : List I) (v : V) (w : World) (e : Ending) (w' : World) : Prop := ∃ i : Int, e = .returned (.int .i64 i) ∧ (inB l v = true → 0 ≤ i) ∧ (inB l v = false → i = -1) ∧ Gro w w'
theorem inB_mem {l : List I} {v : V} {k : Nat} (hk : k < l.length) (h : inI l[k] v = true) : inB l v = true := inB_iff.2 ⟨_, List.getElem_mem hk, h⟩
set_option maxHeartbeats 1000000 in
theorem index_fn (va : Value) (l : List I) (v : V) (gv : Nat) (w : World) (ha : IvAt w va l) (hv : At w gv 0 v) (hl : gv < w.heap.size) :
    Calls Try.prog 64 #[va, .func (.func 42) #[] #[.pointer (some ⟨gv, 0, none⟩)]] w (IdxOut l v w) := by
  obtain ⟨pa, ca, rfl, la, ha⟩ := ha
  obtain ⟨w0, rfl⟩ : ∃ w0, w0 = w := ⟨_, rfl⟩
  have HA := Lib.hid ha
  have HV := Lib.hid hv
  have HL := Lib.hid hl
  generalize hN : l.length = N at la
  have HN := Lib.hid hN
  clear ha hv hl hN
  go_enter Try.func64, Try.ntmps64
  go_wp2_with fail
  go_loopw [5, 8] (fun _ i wr => ∃ k : Nat, k ≤ N ∧ i = .int .i64 k ∧ inB (l.take k) v = false ∧ Gro w0 wr) (fun _ i _ => N - (intOf i).toNat)
  case atStart => exact ⟨0, by omega, rfl, by simp [inB], Gro.refl _⟩
  case round =>
    obtain ⟨k, hk, rfl, ht, hg⟩ := hrel
    have HT := Lib.hid ht
    have HG := Lib.hid hg
    have hwk := step_int k (by omega)
    by_cases hlt : k < N
    · have hkl : k < l.length := by rw [HN.out]; exact hlt
      have hlt' : decide ((k : Int) < (N : Int)) = true := by simp; omega
      obtain ⟨b, off, rfl, hri⟩ := HA.out.resolve_left (by rintro rfl; simp at hkl)
      have hat := (hri.later hg.below).at_ k hkl
      have hbl := (hri.later hg.below).blk
      obtain ⟨x, hx⟩ : ∃ x, l[k] = x := ⟨_, rfl⟩
      rw [hx] at hat
      have HX := Lib.hid hx
      have hc := has_fn x v gv wr (HV.out.later HL.out hg.below) (Nat.lt_of_lt_of_le HL.out hg.size)
      obtain ⟨q, hq⟩ : ∃ q, inI x v = q := ⟨_, rfl⟩
      rw [hq] at hc
      have HC := Lib.hid hc
      have HQ := Lib.hid hq
      obtain ⟨⟨xk, xn, xt⟩, ⟨yk, yn, yt⟩, xo⟩ := x
      obtain ⟨⟨e0, e1, e2⟩, e3, e4, e5, e6⟩ := hat
      simp only at e0 e1 e2 e3 e4 e5 e6
      clear ht hg hri hx hc hq
      cases q
      · go_wp2_with fail
        refine HC.out.mono ?_
        rintro e w2 ⟨rfl, hg2⟩
        have HG2 := Lib.hid hg2
        clear hg2
        go_wp2
        exact ⟨⟨k + 1, by omega, by go_num, by rw [inB_take HT.out hkl, HX.out, HQ.out], HG.out.trans HG2.out⟩, by simp [intOf]; omega⟩
      · have HIN : Hid (inB l v = true) := inB_mem hkl (by rw [HX.out]; exact HQ.out)
        go_wp2_with fail
        refine HC.out.mono ?_
        rintro e w2 ⟨rfl, hg2⟩
        have HG2 := Lib.hid hg2
        clear hg2
        go_wp2
        go_ret
        exact ⟨(k : Int), rfl, (fun _ => by omega), (fun h => by rw [HIN.out] at h; cases h), HG.out.trans HG2.out⟩
    · have hlt' : decide ((k : Int) < (N : Int)) = false := by simp; omega
      have HE : Hid (inB l v = false) := by
        show _ = _
        rw [List.take_of_length_le (by have := HN.out; omega)] at ht
        exact ht
      clear ht hg
      go_wp2
      go_ret
      exact ⟨-1, rfl, (fun h => by rw [HE.out] at h; cases h), fun _ => rfl, HG.out⟩
theorem contains_fn (va : Value) (l : List I) (v : V) (gv : Nat) (w : World) (ha : IvAt w va l) (hv : At w gv 0 v) (hl : gv < w.heap.size) :
    Calls Try.prog 41 #[va, .func (.func 42) #[] #[.pointer (some ⟨gv, 0, none⟩)]] w fun e w' => e = .returned (.bool (inB l v)) ∧ Gro w w' := by
  have HI := Lib.hid (index_fn va l v gv w ha hv hl)
  obtain ⟨q, hq⟩ : ∃ q, inB l v = q := ⟨_, rfl⟩
  rw [hq]
  have HQ := Lib.hid hq
  clear ha hv hl hq
  go_enter Try.func41, Try.ntmps41
  go_wp2_with fail
  refine HI.out.mono ?_
  rintro e w2 ⟨i, rfl, h1, h2, hg⟩
  have HG := Lib.hid hg
  rw [HQ.out] at h1 h2
  cases q
  · have : i = -1 := h2 rfl
    subst this
    clear h1 h2 hg
    go_wp2
    go_ret
    exact ⟨by simp, HG.out⟩
  · have hi : 0 ≤ i := h1 rfl
    clear h1 h2 hg
    go_wp2
    go_ret
    exact ⟨by simp [hi], HG.out⟩
end Go.Proofs.Ytmjokpakekfkfaa
set_option linter.unusedSimpArgs false
set_option linter.unusedVariables false
namespace Go.Proofs.Ytmjokpakekfkfaa
open Go.RowKit

theorem iv_slice' {w : World} {v : Value} {l : List I} (h : IvAt w v l) : ∃ a cap, v = .slice a l.length cap := let ⟨a, cap, h1, _⟩ := h; ⟨a, cap, h1⟩
set_option maxHeartbeats 1000000 in
theorem ihas_calls (va : Value) (l : List I) (v : V) (w : World) (ha : IvAt w va l) : Calls Try.prog 14 #[va, v.val] w fun e w' => e = .returned (.bool (hasB l v)) ∧ Gro w w' := by
  have HA := Lib.hid ha
  have hw : Below w.heap.size w (w.alloc (vObj v 25)) := (Below.refl _ _).alloc (Nat.le_refl _) _
  have HV := Lib.hid (valid_calls v (w.alloc (vObj v 25)))
  have HH : Hid (hasB l v = (validB v && canonB l && inB l v)) := rfl
  obtain ⟨b1, h1⟩ : ∃ b, validB v = b := ⟨_, rfl⟩
  obtain ⟨b2, h2⟩ : ∃ b, canonB l = b := ⟨_, rfl⟩
  obtain ⟨b3, h3⟩ : ∃ b, inB l v = b := ⟨_, rfl⟩
  rw [h1] at HV
  have H1 := Lib.hid h1
  have H2 := Lib.hid h2
  have H3 := Lib.hid h3
  obtain ⟨vk, vn, vt⟩ := v
  obtain ⟨pa, pc, rfl⟩ := iv_slice' ha
  generalize l.length = n at HA
  clear ha hw h1 h2 h3
  cases b1
  · go_enter Try.func14, Try.ntmps14
    go_wp2_with fail
    refine HV.out.mono ?_
    rintro e w2 ⟨rfl, hg⟩
    have HG : Hid (Gro w w2) := ((Gro.refl _).alloc _).trans hg
    clear hg
    go_wp2
    go_ret
    exact ⟨ret_b (by rw [HH.out, H1.out]; rfl), HG.out⟩
  · go_enter Try.func14, Try.ntmps14
    go_wp2_with fail
    refine HV.out.mono ?_
    rintro e w2 ⟨rfl, hg⟩
    obtain ⟨s0, c0, c1, c2⟩ := box_gro' hg
    have HG : Hid (Gro w w2) := ((Gro.refl _).alloc _).trans hg
    have hv2 := ivalid_calls _ l w2 (HA.out.later HG.out.below)
    rw [H2.out] at hv2
    have HV2 := Lib.hid hv2
    clear hg hv2
    cases b2
    · go_wp2_with fail
      refine HV2.out.mono ?_
      rintro e w3 ⟨rfl, hg⟩
      have HG3 := Lib.hid (HG.out.trans hg)
      clear hg
      go_wp2
      go_ret
      exact ⟨ret_b (by rw [HH.out, H1.out, H2.out]; rfl), HG3.out⟩
    · go_wp2_with fail
      refine HV2.out.mono ?_
      rintro e w3 ⟨rfl, hg⟩
      have HG3 := Lib.hid (HG.out.trans hg)
      have d0 := (hg.below.cell (p := ⟨w.heap.size, 0, none⟩) s0).trans c0
      have d1 := (hg.below.cell (p := ⟨w.heap.size, 1, none⟩) s0).trans c1
      have d2 := (hg.below.cell (p := ⟨w.heap.size, 2, none⟩) s0).trans c2
      have s3 := Nat.lt_of_lt_of_le s0 hg.size
      have hc := contains_fn _ l ⟨vk, vn, vt⟩ w.heap.size w3 (HA.out.later HG3.out.below) ⟨d0, d1, d2⟩ s3
      rw [H3.out] at hc
      have HC := Lib.hid hc
      clear hg hc c0 c1 c2 s0
      go_wp2_with fail
      refine HC.out.mono ?_
      rintro e w4 ⟨rfl, hg⟩
      have HG4 := Lib.hid (HG3.out.trans hg)
      clear hg
      go_wp2
      go_ret
      exact ⟨ret_b (by rw [HH.out, H1.out, H2.out, H3.out]; rfl), HG4.out⟩
set_option maxHeartbeats 2000000 in
set_option maxRecDepth 100000 in
theorem refIn_calls (va : Value) (l : List I) (v : V) (w : World) (ha : IvAt w va l) : Calls Try.prog 45 #[va, v.val] w fun e w' => e = .returned (.bool (inB l v)) ∧ Gro w w' := by
  obtain ⟨pa, ca, rfl, la, ha⟩ := ha
  have HA := Lib.hid ha
  generalize hN : l.length = N at la
  have HN := Lib.hid hN
  obtain ⟨vk, vn, vt⟩ := v
  clear ha hN
  go_enter Try.func45, Try.ntmps45
  go_wp2_with fail
  obtain ⟨W0, hW0⟩ : ∃ W0, W0 = w.alloc (.cells #[.int .i64 vk, .int .i64 vn, .string vt] 25) := ⟨_, rfl⟩
  have hg0 : Gro w W0 := by rw [hW0]; exact (Gro.refl _).alloc _
  have hv0 : At W0 w.heap.size 0 ⟨vk, vn, vt⟩ := by rw [hW0]; exact ⟨by go_simp, by go_simp, by go_simp⟩
  have hl0 : w.heap.size < W0.heap.size := by rw [hW0]; simp
  have HG0 := Lib.hid hg0
  have HV0 := Lib.hid hv0
  have HL0 := Lib.hid hl0
  rw [← hW0]
  clear hW0 hg0 hv0 hl0
  generalize w.heap.size = gv at HV0 HL0 ⊢
  go_loopw [6, 9] (fun _ i wr => ∃ k : Nat, k ≤ N ∧ i = .int .i64 k ∧ inB (l.take k) ⟨vk, vn, vt⟩ = false ∧ Gro W0 wr) (fun _ i _ => N - (intOf i).toNat)
  case atStart => exact ⟨0, by omega, rfl, by simp [inB], Gro.refl _⟩
  case round =>
    obtain ⟨k, hk, rfl, ht, hg⟩ := hrel
    have HT := Lib.hid ht
    have HG := Lib.hid hg
    have hwk := step_int k (by omega)
    by_cases hlt : k < N
    · have hkl : k < l.length := by rw [HN.out]; exact hlt
      have hlt' : decide ((k : Int) < (N : Int)) = true := by simp; omega
      obtain ⟨b, off, rfl, hri⟩ := HA.out.resolve_left (by rintro rfl; simp at hkl)
      have hbw := (HG0.out.trans hg).below
      have hat := (hri.later hbw).at_ k hkl
      have hbl := (hri.later hbw).blk
      obtain ⟨x, hx⟩ : ∃ x, l[k] = x := ⟨_, rfl⟩
      rw [hx] at hat
      have HX := Lib.hid hx
      obtain ⟨⟨xk, xn, xt⟩, ⟨yk, yn, yt⟩, xo⟩ := x
      obtain ⟨⟨e0, e1, e2⟩, e3, e4, e5, e6⟩ := hat
      simp only at e0 e1 e2 e3 e4 e5 e6
      obtain ⟨W, hW⟩ : ∃ W, W = wr.alloc (iObj ⟨⟨xk, xn, xt⟩, ⟨yk, yn, yt⟩, xo⟩ 57) := ⟨_, rfl⟩
      have hB : IAt W wr.heap.size 0 ⟨⟨xk, xn, xt⟩, ⟨yk, yn, yt⟩, xo⟩ := by rw [hW]; exact ⟨⟨by go_simp, by go_simp, by go_simp⟩, by go_simp, by go_simp, by go_simp, by go_simp⟩
      have hlB : wr.heap.size < W.heap.size := by rw [hW]; simp
      have HGW : Hid (Gro w W) := by show Gro _ _; rw [hW]; exact (HG0.out.trans HG.out).alloc _
      have HGW0 : Hid (Gro W0 W) := by show Gro _ _; rw [hW]; exact HG.out.alloc _
      obtain ⟨a0, a1, a2⟩ := HV0.out.later HL0.out HGW0.out.below
      simp only [Nat.zero_add] at a0 a1 a2
      have hlv := Nat.lt_of_lt_of_le HL0.out HGW0.out.size
      obtain ⟨v0, v1, v2⟩ := HV0.out.later HL0.out hg.below
      simp only [Nat.zero_add] at v0 v1 v2
      have hlw := Nat.lt_of_lt_of_le HL0.out hg.size
      have HWE := Lib.hid hW
      have c0 := hB.f.k
      have c1 := hB.f.n
      have c2 := hB.f.t
      have c3 := hB.t0
      have c4 := hB.t1
      have c5 := hB.t2
      have c6 := hB.o
      simp only [Nat.zero_add] at c0 c1 c2 c3 c4 c5 c6
      have HC1 := Lib.hid (fun w' => refCompare_calls ⟨xk, xn, xt⟩ ⟨vk, vn, vt⟩ w')
      have HC2 := Lib.hid (fun w' => refCompare_calls ⟨vk, vn, vt⟩ ⟨yk, yn, yt⟩ w')
      obtain ⟨d1, h1⟩ : ∃ d, cmpV ⟨xk, xn, xt⟩ ⟨vk, vn, vt⟩ = d := ⟨_, rfl⟩
      obtain ⟨d2, h2⟩ : ∃ d, cmpV ⟨vk, vn, vt⟩ ⟨yk, yn, yt⟩ = d := ⟨_, rfl⟩
      rw [h1] at HC1
      rw [h2] at HC2
      have HI : Hid (inI ⟨⟨xk, xn, xt⟩, ⟨yk, yn, yt⟩, xo⟩ ⟨vk, vn, vt⟩ = (decide (d1 ≤ 0) && (xo || decide (d2 < 0)))) := by show _ = _; unfold inI; simp only [h1, h2]
      clear ht hg hri hx hbw h1 h2 hW hB
      by_cases hd : d1 ≤ 0
      · have HD : Hid (decide (d1 ≤ 0) = true) := by show _ = _; simpa using hd
        cases xo
        · by_cases he : d2 < 0
          · have HE : Hid (decide (d2 < 0) = true) := by show _ = _; simpa using he
            have HIN : Hid (inB l ⟨vk, vn, vt⟩ = true) := inB_mem hkl (by rw [HX.out, HI.out, HD.out, HE.out]; rfl)
            go_wp2_with fail
            rw [← HWE.out]
            refine (wide (HC1.out W)).mono ?_
            rintro e w' ⟨q1, os1, rfl, rfl⟩
            go_wp2_with fail
            refine (wide (HC2.out _)).mono ?_
            rintro e w' ⟨q1, os1, rfl, rfl⟩
            go_wp2
            go_ret
            exact ⟨ret_b (by rw [HIN.out]), HGW.out.grown _ _⟩
          · have HE : Hid (decide (d2 < 0) = false) := by show _ = _; simpa using he
            have HNX : Hid (inB (l.take (k + 1)) ⟨vk, vn, vt⟩ = false) := by show _ = _; rw [inB_take HT.out hkl, HX.out, HI.out, HD.out, HE.out]; rfl
            go_wp2_with fail
            rw [← HWE.out]
            refine (wide (HC1.out W)).mono ?_
            rintro e w' ⟨q1, os1, rfl, rfl⟩
            go_wp2_with fail
            refine (wide (HC2.out _)).mono ?_
            rintro e w' ⟨q1, os1, rfl, rfl⟩
            go_wp2
            exact ⟨⟨k + 1, by omega, by go_num, HNX.out, HGW0.out.grown _ _⟩, by simp [intOf]; omega⟩
        · have HIN : Hid (inB l ⟨vk, vn, vt⟩ = true) := inB_mem hkl (by rw [HX.out, HI.out, HD.out]; rfl)
          go_wp2_with fail
          rw [← HWE.out]
          refine (wide (HC1.out W)).mono ?_
          rintro e w' ⟨q1, os1, rfl, rfl⟩
          go_wp2
          go_ret
          exact ⟨ret_b (by rw [HIN.out]), HGW.out.grown _ _⟩
      · have HD : Hid (decide (d1 ≤ 0) = false) := by show _ = _; simpa using hd
        have HNX : Hid (inB (l.take (k + 1)) ⟨vk, vn, vt⟩ = false) := by show _ = _; rw [inB_take HT.out hkl, HX.out, HI.out, HD.out]; rfl
        go_wp2_with fail
        rw [← HWE.out]
        refine (wide (HC1.out W)).mono ?_
        rintro e w' ⟨q1, os1, rfl, rfl⟩
        go_wp2
        exact ⟨⟨k + 1, by omega, by go_num, HNX.out, HGW0.out.grown _ _⟩, by simp [intOf]; omega⟩
    · have hlt' : decide ((k : Int) < (N : Int)) = false := by simp; omega
      have HE : Hid (inB l ⟨vk, vn, vt⟩ = false) := by
        show _ = _
        rw [List.take_of_length_le (by have := HN.out; omega)] at ht
        exact ht
      have HGF := Lib.hid (HG0.out.trans hg)
      clear ht hg
      go_wp2
      go_ret
      exact ⟨ret_b (by rw [HE.out]), HGF.out⟩
theorem refIhas_calls (va : Value) (l : List I) (v : V) (w : World) (ha : IvAt w va l) : Calls Try.prog 15 #[va, v.val] w fun e w' => e = .returned (.bool (hasB l v)) ∧ Gro w w' := by
  have HA := Lib.hid ha
  have HV := Lib.hid (refValid_calls v (w.alloc (vObj v 25)))
  have HH : Hid (hasB l v = (validB v && canonB l && inB l v)) := rfl
  obtain ⟨b1, h1⟩ : ∃ b, validB v = b := ⟨_, rfl⟩
  obtain ⟨b2, h2⟩ : ∃ b, canonB l = b := ⟨_, rfl⟩
  obtain ⟨b3, h3⟩ : ∃ b, inB l v = b := ⟨_, rfl⟩
  rw [h1] at HV
  have H1 := Lib.hid h1
  have H2 := Lib.hid h2
  have H3 := Lib.hid h3
  obtain ⟨vk, vn, vt⟩ := v
  obtain ⟨pa, pc, rfl⟩ := iv_slice' ha
  generalize l.length = n at HA
  clear ha h1 h2 h3
  cases b1
  · go_enter Try.func15, Try.ntmps15
    go_wp2_with fail
    refine HV.out.mono ?_
    rintro e w2 ⟨rfl, hg⟩
    have HG : Hid (Gro w w2) := ((Gro.refl _).alloc _).trans hg
    clear hg
    go_wp2
    go_ret
    exact ⟨ret_b (by rw [HH.out, H1.out]; rfl), HG.out⟩
  · go_enter Try.func15, Try.ntmps15
    go_wp2_with fail
    refine HV.out.mono ?_
    rintro e w2 ⟨rfl, hg⟩
    obtain ⟨s0, c0, c1, c2⟩ := box_gro' hg
    have HG : Hid (Gro w w2) := ((Gro.refl _).alloc _).trans hg
    have hv2 := refIvalid_calls _ l w2 (HA.out.later HG.out.below)
    rw [H2.out] at hv2
    have HV2 := Lib.hid hv2
    clear hg hv2
    cases b2
    · go_wp2_with fail
      refine HV2.out.mono ?_
      rintro e w3 ⟨rfl, hg⟩
      have HG3 := Lib.hid (HG.out.trans hg)
      clear hg
      go_wp2
      go_ret
      exact ⟨ret_b (by rw [HH.out, H1.out, H2.out]; rfl), HG3.out⟩
    · go_wp2_with fail
      refine HV2.out.mono ?_
      rintro e w3 ⟨rfl, hg⟩
      have HG3 := Lib.hid (HG.out.trans hg)
      have d0 := (hg.below.cell (p := ⟨w.heap.size, 0, none⟩) s0).trans c0
      have d1 := (hg.below.cell (p := ⟨w.heap.size, 1, none⟩) s0).trans c1
      have d2 := (hg.below.cell (p := ⟨w.heap.size, 2, none⟩) s0).trans c2
      have s3 := Nat.lt_of_lt_of_le s0 hg.size
      have hc := refIn_calls _ l ⟨vk, vn, vt⟩ w3 (HA.out.later HG3.out.below)
      rw [H3.out] at hc
      have HC := Lib.hid hc
      clear hg hc c0 c1 c2 s0
      go_wp2_with fail
      refine HC.out.mono ?_
      rintro e w4 ⟨rfl, hg⟩
      have HG4 := Lib.hid (HG3.out.trans hg)
      clear hg
      go_wp2
      go_ret
      exact ⟨ret_b (by rw [HH.out, H1.out, H2.out, H3.out]; rfl), HG4.out⟩
end Go.Proofs.Ytmjokpakekfkfaa
