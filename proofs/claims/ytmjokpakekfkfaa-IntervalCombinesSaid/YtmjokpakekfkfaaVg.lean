/- The contracts of the makers of intervals, and of their references. -/
import Derived.Test.YtmjokpakekfkfaaVc
import Derived.Test.YtmjokpakekfkfaaA6
import Derived.Test.YtmjokpakekfkfaaQ
set_option linter.unusedSimpArgs false
set_option linter.unusedVariables false
namespace Go.Proofs.Ytmjokpakekfkfaa
open Go.RowKit

/-- A list of intervals and an error. -/
def MakeOut (l : List I) (err : Int) (w : World) (e : Ending) (w' : World) : Prop := ∃ v, e = .returned (.tuple #[v, .int .i64 err]) ∧ IvAt w' v l ∧ Gro w w'
abbrev vObj (x : V) (T : TypeId) : Obj := .cells #[.int .i64 x.k, .int .i64 x.n, .string x.t] T
theorem iv_new (w : World) (x : I) (T : TypeId) : IvAt (w.alloc (iObj x T)) (.slice (some ⟨w.heap.size, 0, none⟩) 1 1) [x] := by
  refine ⟨_, 1, rfl, by simp, .inr ⟨w.heap.size, 0, rfl, by simp, fun i hi => ?_⟩⟩
  obtain rfl : i = 0 := by simp at hi; omega
  exact ⟨⟨by go_simp, by go_simp, by go_simp⟩, by go_simp, by go_simp, by go_simp, by go_simp⟩
theorem iv_nil (w : World) : IvAt w (.slice none 0 0) [] := ⟨none, 0, rfl, by simp, .inl rfl⟩
theorem make_nil {err : Int} {w w' : World} {u : Value} (hu : u = .tuple #[.slice none 0 0, .int .i64 err]) (h : Gro w w') : MakeOut [] err w (.returned u) w' := by subst hu; exact ⟨_, rfl, iv_nil _, h⟩
theorem make_end {err : Int} {w W : World} {u : Value} {x : I} {T : TypeId} {g : Nat} (hu : u = .tuple #[.slice (some ⟨g, 0, none⟩) 1 1, .int .i64 err]) (hg : g = W.heap.size) (h : Gro w W) : MakeOut [x] err w (.returned u) (W.alloc (iObj x T)) := by
  subst hu hg; exact ⟨_, rfl, iv_new _ _ _, h.alloc _⟩
theorem box_two (w : World) (x y : V) (T : TypeId) (m : Nat) (os : Array Obj) : At (Sort.grow (((w.alloc (vObj x T)).alloc (vObj y T)).drewN m) os) w.heap.size 0 x ∧ At (Sort.grow (((w.alloc (vObj x T)).alloc (vObj y T)).drewN m) os) (w.heap.size + 1) 0 y :=
  ⟨⟨cell_grown (by simp; omega) (by go_simp) m os, cell_grown (by simp; omega) (by go_simp) m os, cell_grown (by simp; omega) (by go_simp) m os⟩, ⟨cell_grown (by simp) (by go_simp) m os, cell_grown (by simp) (by go_simp) m os, cell_grown (by simp) (by go_simp) m os⟩⟩
theorem num_calls (n : Int) (w : World) : Calls Try.prog 47 #[.int .i64 n] w fun e w' => e = .returned (V.val ⟨4, n, ByteArray.empty⟩) ∧ Gro w w' := by
  go_enter Try.func47, Try.ntmps47
  go_wp2
  exact bodyPost_ret (v := V.val ⟨4, n, ByteArray.empty⟩) (by simp [results, Try.results47, go_sem, V.val]; try rfl) rfl ⟨rfl, by repeat (first | exact Gro.refl _ | apply Gro.alloc | apply Gro.drew)⟩

noncomputable def betweenL (f t : V) : List I := if validB f = true ∧ validB t = true ∧ cmpV f t < 0 then [⟨f, t, false⟩] else []
def betweenE (f t : V) : Int := if validB f = true ∧ validB t = true then 0 else 10
def fromL (v : V) : List I := if validB v = true then [⟨v, zV, true⟩] else []
def fromE (v : V) : Int := if validB v = true then 0 else 10
set_option maxHeartbeats 1000000 in
theorem between_calls (x y : V) (w : World) : Calls Try.prog 46 #[x.val, y.val] w (MakeOut (betweenL x y) (betweenE x y) w) := by
  obtain ⟨xk, xn, xt⟩ := x
  obtain ⟨yk, yn, yt⟩ := y
  have c0 := fun m os => (box_two w ⟨xk, xn, xt⟩ ⟨yk, yn, yt⟩ 25 m os).1.k
  have c1 := fun m os => (box_two w ⟨xk, xn, xt⟩ ⟨yk, yn, yt⟩ 25 m os).1.n
  have c2 := fun m os => (box_two w ⟨xk, xn, xt⟩ ⟨yk, yn, yt⟩ 25 m os).1.t
  have d0 := fun m os => (box_two w ⟨xk, xn, xt⟩ ⟨yk, yn, yt⟩ 25 m os).2.k
  have d1 := fun m os => (box_two w ⟨xk, xn, xt⟩ ⟨yk, yn, yt⟩ 25 m os).2.n
  have d2 := fun m os => (box_two w ⟨xk, xn, xt⟩ ⟨yk, yn, yt⟩ 25 m os).2.t
  simp only at c0 c1 c2 d0 d1 d2
  have HV1 := Lib.hid (fun w' => wide (valid_calls ⟨xk, xn, xt⟩ w'))
  have HV2 := Lib.hid (fun w' => wide (valid_calls ⟨yk, yn, yt⟩ w'))
  have HCM := Lib.hid (fun w' => wide (compare_calls ⟨xk, xn, xt⟩ ⟨yk, yn, yt⟩ w'))
  obtain ⟨b1, hb1⟩ : ∃ b1, validB ⟨xk, xn, xt⟩ = b1 := ⟨_, rfl⟩
  obtain ⟨b2, hb2⟩ : ∃ b2, validB ⟨yk, yn, yt⟩ = b2 := ⟨_, rfl⟩
  obtain ⟨d, hd⟩ : ∃ d, cmpV ⟨xk, xn, xt⟩ ⟨yk, yn, yt⟩ = d := ⟨_, rfl⟩
  rw [hb1] at HV1
  rw [hb2] at HV2
  rw [hd] at HCM
  have hg : ∀ n os, Gro w (Sort.grow (((w.alloc (vObj ⟨xk, xn, xt⟩ 25)).alloc (vObj ⟨yk, yn, yt⟩ 25)).drewN n) os) := fun n os => (((Gro.refl _).alloc _).alloc _).grown _ _
  have HG := Lib.hid hg
  cases b1
  · have HL : Hid (betweenL ⟨xk, xn, xt⟩ ⟨yk, yn, yt⟩ = [] ∧ betweenE ⟨xk, xn, xt⟩ ⟨yk, yn, yt⟩ = 10) := by show _ ∧ _; simp [betweenL, betweenE, hb1]
    rw [HL.out.1, HL.out.2]
    clear hb1 hb2 hd hg
    go_enter Try.func46, Try.ntmps46
    go_wp2_with fail
    refine (HV1.out _).mono ?_
    rintro e w' ⟨q1, os1, rfl, rfl⟩
    go_wp2
    go_ret2
    exact make_nil rfl (HG.out _ _)
  cases b2
  · have HL : Hid (betweenL ⟨xk, xn, xt⟩ ⟨yk, yn, yt⟩ = [] ∧ betweenE ⟨xk, xn, xt⟩ ⟨yk, yn, yt⟩ = 10) := by show _ ∧ _; simp [betweenL, betweenE, hb2]
    rw [HL.out.1, HL.out.2]
    clear hb1 hb2 hd hg
    go_enter Try.func46, Try.ntmps46
    go_wp2_with fail
    refine (HV1.out _).mono ?_
    rintro e w' ⟨q1, os1, rfl, rfl⟩
    go_wp2_with fail
    refine (HV2.out _).mono ?_
    rintro e w' ⟨q1, os1, rfl, rfl⟩
    go_wp2
    go_ret2
    exact make_nil rfl (HG.out _ _)
  by_cases hdl : 0 ≤ d
  · have HL : Hid (betweenL ⟨xk, xn, xt⟩ ⟨yk, yn, yt⟩ = [] ∧ betweenE ⟨xk, xn, xt⟩ ⟨yk, yn, yt⟩ = 0) := by show _ ∧ _; simp [betweenL, betweenE, hb1, hb2, hd]; omega
    rw [HL.out.1, HL.out.2]
    clear hb1 hb2 hd hg
    go_enter Try.func46, Try.ntmps46
    go_wp2_with fail
    refine (HV1.out _).mono ?_
    rintro e w' ⟨q1, os1, rfl, rfl⟩
    go_wp2_with fail
    refine (HV2.out _).mono ?_
    rintro e w' ⟨q1, os1, rfl, rfl⟩
    go_wp2_with fail
    refine (HCM.out _).mono ?_
    rintro e w' ⟨q1, os1, rfl, rfl⟩
    go_wp2
    go_ret2
    exact make_nil rfl (HG.out _ _)
  · have HL : Hid (betweenL ⟨xk, xn, xt⟩ ⟨yk, yn, yt⟩ = [⟨⟨xk, xn, xt⟩, ⟨yk, yn, yt⟩, false⟩] ∧ betweenE ⟨xk, xn, xt⟩ ⟨yk, yn, yt⟩ = 0) := by show _ ∧ _; simp [betweenL, betweenE, hb1, hb2, hd]; omega
    rw [HL.out.1, HL.out.2]
    clear hb1 hb2 hd hg
    go_enter Try.func46, Try.ntmps46
    go_wp2_with fail
    refine (HV1.out _).mono ?_
    rintro e w' ⟨q1, os1, rfl, rfl⟩
    go_wp2_with fail
    refine (HV2.out _).mono ?_
    rintro e w' ⟨q1, os1, rfl, rfl⟩
    go_wp2_with fail
    refine (HCM.out _).mono ?_
    rintro e w' ⟨q1, os1, rfl, rfl⟩
    go_wp2
    go_ret2
    exact make_end (x := ⟨⟨xk, xn, xt⟩, ⟨yk, yn, yt⟩, false⟩) rfl (by simp) (HG.out _ _)
set_option maxHeartbeats 1000000 in
theorem refBetween_calls (x y : V) (w : World) : Calls Try.prog 32 #[x.val, y.val] w (MakeOut (betweenL x y) (betweenE x y) w) := by
  obtain ⟨xk, xn, xt⟩ := x
  obtain ⟨yk, yn, yt⟩ := y
  have c0 := fun m os => (box_two w ⟨xk, xn, xt⟩ ⟨yk, yn, yt⟩ 25 m os).1.k
  have c1 := fun m os => (box_two w ⟨xk, xn, xt⟩ ⟨yk, yn, yt⟩ 25 m os).1.n
  have c2 := fun m os => (box_two w ⟨xk, xn, xt⟩ ⟨yk, yn, yt⟩ 25 m os).1.t
  have d0 := fun m os => (box_two w ⟨xk, xn, xt⟩ ⟨yk, yn, yt⟩ 25 m os).2.k
  have d1 := fun m os => (box_two w ⟨xk, xn, xt⟩ ⟨yk, yn, yt⟩ 25 m os).2.n
  have d2 := fun m os => (box_two w ⟨xk, xn, xt⟩ ⟨yk, yn, yt⟩ 25 m os).2.t
  simp only at c0 c1 c2 d0 d1 d2
  have HV1 := Lib.hid (fun w' => wide (refValid_calls ⟨xk, xn, xt⟩ w'))
  have HV2 := Lib.hid (fun w' => wide (refValid_calls ⟨yk, yn, yt⟩ w'))
  have HCM := Lib.hid (fun w' => wide (refCompare_calls ⟨xk, xn, xt⟩ ⟨yk, yn, yt⟩ w'))
  obtain ⟨b1, hb1⟩ : ∃ b1, validB ⟨xk, xn, xt⟩ = b1 := ⟨_, rfl⟩
  obtain ⟨b2, hb2⟩ : ∃ b2, validB ⟨yk, yn, yt⟩ = b2 := ⟨_, rfl⟩
  obtain ⟨d, hd⟩ : ∃ d, cmpV ⟨xk, xn, xt⟩ ⟨yk, yn, yt⟩ = d := ⟨_, rfl⟩
  rw [hb1] at HV1
  rw [hb2] at HV2
  rw [hd] at HCM
  have hg : ∀ n os, Gro w (Sort.grow (((w.alloc (vObj ⟨xk, xn, xt⟩ 25)).alloc (vObj ⟨yk, yn, yt⟩ 25)).drewN n) os) := fun n os => (((Gro.refl _).alloc _).alloc _).grown _ _
  have HG := Lib.hid hg
  cases b1
  · have HL : Hid (betweenL ⟨xk, xn, xt⟩ ⟨yk, yn, yt⟩ = [] ∧ betweenE ⟨xk, xn, xt⟩ ⟨yk, yn, yt⟩ = 10) := by show _ ∧ _; simp [betweenL, betweenE, hb1]
    rw [HL.out.1, HL.out.2]
    clear hb1 hb2 hd hg
    go_enter Try.func32, Try.ntmps32
    go_wp2_with fail
    refine (HV1.out _).mono ?_
    rintro e w' ⟨q1, os1, rfl, rfl⟩
    go_wp2
    go_ret2
    exact make_nil rfl (HG.out _ _)
  cases b2
  · have HL : Hid (betweenL ⟨xk, xn, xt⟩ ⟨yk, yn, yt⟩ = [] ∧ betweenE ⟨xk, xn, xt⟩ ⟨yk, yn, yt⟩ = 10) := by show _ ∧ _; simp [betweenL, betweenE, hb2]
    rw [HL.out.1, HL.out.2]
    clear hb1 hb2 hd hg
    go_enter Try.func32, Try.ntmps32
    go_wp2_with fail
    refine (HV1.out _).mono ?_
    rintro e w' ⟨q1, os1, rfl, rfl⟩
    go_wp2_with fail
    refine (HV2.out _).mono ?_
    rintro e w' ⟨q1, os1, rfl, rfl⟩
    go_wp2
    go_ret2
    exact make_nil rfl (HG.out _ _)
  by_cases hdl : 0 ≤ d
  · have HL : Hid (betweenL ⟨xk, xn, xt⟩ ⟨yk, yn, yt⟩ = [] ∧ betweenE ⟨xk, xn, xt⟩ ⟨yk, yn, yt⟩ = 0) := by show _ ∧ _; simp [betweenL, betweenE, hb1, hb2, hd]; omega
    rw [HL.out.1, HL.out.2]
    clear hb1 hb2 hd hg
    go_enter Try.func32, Try.ntmps32
    go_wp2_with fail
    refine (HV1.out _).mono ?_
    rintro e w' ⟨q1, os1, rfl, rfl⟩
    go_wp2_with fail
    refine (HV2.out _).mono ?_
    rintro e w' ⟨q1, os1, rfl, rfl⟩
    go_wp2_with fail
    refine (HCM.out _).mono ?_
    rintro e w' ⟨q1, os1, rfl, rfl⟩
    go_wp2
    go_ret2
    exact make_nil rfl (HG.out _ _)
  · have HL : Hid (betweenL ⟨xk, xn, xt⟩ ⟨yk, yn, yt⟩ = [⟨⟨xk, xn, xt⟩, ⟨yk, yn, yt⟩, false⟩] ∧ betweenE ⟨xk, xn, xt⟩ ⟨yk, yn, yt⟩ = 0) := by show _ ∧ _; simp [betweenL, betweenE, hb1, hb2, hd]; omega
    rw [HL.out.1, HL.out.2]
    clear hb1 hb2 hd hg
    go_enter Try.func32, Try.ntmps32
    go_wp2_with fail
    refine (HV1.out _).mono ?_
    rintro e w' ⟨q1, os1, rfl, rfl⟩
    go_wp2_with fail
    refine (HV2.out _).mono ?_
    rintro e w' ⟨q1, os1, rfl, rfl⟩
    go_wp2_with fail
    refine (HCM.out _).mono ?_
    rintro e w' ⟨q1, os1, rfl, rfl⟩
    go_wp2
    go_ret2
    exact make_end (x := ⟨⟨xk, xn, xt⟩, ⟨yk, yn, yt⟩, false⟩) rfl (by simp) (HG.out _ _)
theorem refFrom_calls (x : V) (w : World) : Calls Try.prog 30 #[x.val] w (MakeOut (fromL x) (fromE x) w) := by
  obtain ⟨xk, xn, xt⟩ := x
  have c0 := fun m os => (box3 w (.int .i64 xk) (.int .i64 xn) (.string xt) 25 m os).1
  have c1 := fun m os => (box3 w (.int .i64 xk) (.int .i64 xn) (.string xt) 25 m os).2.1
  have c2 := fun m os => (box3 w (.int .i64 xk) (.int .i64 xn) (.string xt) 25 m os).2.2
  have HV1 := Lib.hid (fun w' => wide (refValid_calls ⟨xk, xn, xt⟩ w'))
  obtain ⟨b1, hb1⟩ : ∃ b1, validB ⟨xk, xn, xt⟩ = b1 := ⟨_, rfl⟩
  rw [hb1] at HV1
  cases b1
  · have HL : Hid (fromL ⟨xk, xn, xt⟩ = [] ∧ fromE ⟨xk, xn, xt⟩ = 10) := by show _ ∧ _; simp [fromL, fromE, hb1]
    rw [HL.out.1, HL.out.2]
    clear hb1
    go_enter Try.func30, Try.ntmps30
    go_wp2_with fail
    refine (HV1.out _).mono ?_
    rintro e w' ⟨q1, os1, rfl, rfl⟩
    go_wp2
    go_ret2
    exact make_nil rfl (((Gro.refl _).alloc _).grown _ _)
  · have HL : Hid (fromL ⟨xk, xn, xt⟩ = [⟨⟨xk, xn, xt⟩, zV, true⟩] ∧ fromE ⟨xk, xn, xt⟩ = 0) := by show _ ∧ _; simp [fromL, fromE, hb1]
    rw [HL.out.1, HL.out.2]
    clear hb1
    go_enter Try.func30, Try.ntmps30
    go_wp2_with fail
    refine (HV1.out _).mono ?_
    rintro e w' ⟨q1, os1, rfl, rfl⟩
    go_wp2
    go_ret2
    exact make_end (x := ⟨⟨xk, xn, xt⟩, zV, true⟩) rfl (by simp) (((Gro.refl _).alloc _).grown _ _)
end Go.Proofs.Ytmjokpakekfkfaa
