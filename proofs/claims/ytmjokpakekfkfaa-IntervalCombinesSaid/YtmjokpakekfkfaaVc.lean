/- Intervals in memory; contracts of interval.validPart and interval.separate. -/
import Derived.Test.YtmjokpakekfkfaaVb
import Derived.Test.YtmjokpakekfkfaaH
import Derived.Test.YtmjokpakekfkfaaR
import Derived.Test.YtmjokpakekfkfaaJ
set_option linter.unusedSimpArgs false
set_option linter.unusedVariables false
namespace Go.Proofs.Ytmjokpakekfkfaa
open Go.RowKit

/-- The seven cells of an interval. -/
structure IAt (w : World) (b off : Nat) (x : I) : Prop where
  f : At w b off x.f
  t0 : w.cell? ⟨b, off + 3, none⟩ = some (.int .i64 x.t.k)
  t1 : w.cell? ⟨b, off + 4, none⟩ = some (.int .i64 x.t.n)
  t2 : w.cell? ⟨b, off + 5, none⟩ = some (.string x.t.t)
  o : w.cell? ⟨b, off + 6, none⟩ = some (.bool x.o)
structure IvIn (w : World) (b off : Nat) (l : List I) : Prop where
  blk : b < w.heap.size
  at_ : ∀ i (h : i < l.length), IAt w b (off + i * 7) l[i]
/-- A slice value that reads as a list of intervals. -/
def IvAt (w : World) (v : Value) (l : List I) : Prop :=
  ∃ (a : Option Addr) (cap : Nat), v = .slice a l.length cap ∧ l.length ≤ 4398046511104 ∧ (l = [] ∨ ∃ b off, a = some ⟨b, off, none⟩ ∧ IvIn w b off l)
theorem IAt.later {w w' : World} {b off : Nat} {x : I} (h : IAt w b off x) (hb : b < w.heap.size) (hw : Below w.heap.size w w') : IAt w' b off x :=
  ⟨h.f.later hb hw, (hw.cell (p := ⟨b, _, none⟩) hb).trans h.t0, (hw.cell (p := ⟨b, _, none⟩) hb).trans h.t1, (hw.cell (p := ⟨b, _, none⟩) hb).trans h.t2, (hw.cell (p := ⟨b, _, none⟩) hb).trans h.o⟩
theorem IvIn.later {w w' : World} {b off : Nat} {l : List I} (h : IvIn w b off l) (hw : Below w.heap.size w w') : IvIn w' b off l :=
  ⟨Nat.lt_of_lt_of_le h.blk hw.size, fun i hi => (h.at_ i hi).later h.blk hw⟩
theorem IvAt.later {w w' : World} {v : Value} {l : List I} (h : IvAt w v l) (hw : Below w.heap.size w w') : IvAt w' v l := by
  obtain ⟨a, cap, h1, h2, h3⟩ := h
  exact ⟨a, cap, h1, h2, h3.imp id fun ⟨b, off, h4, h5⟩ => ⟨b, off, h4, h5.later hw⟩⟩
/-- A block of an interval's cells. -/
abbrev iObj (x : I) (T : TypeId) : Obj := .cells #[.int .i64 x.f.k, .int .i64 x.f.n, .string x.f.t, .int .i64 x.t.k, .int .i64 x.t.n, .string x.t.t, .bool x.o] T

/-- The cells of a boxed interval, in every world that came of it by growth. -/
theorem box7 (w : World) (x : I) (T : TypeId) (m : Nat) (os : Array Obj) : IAt (Sort.grow ((w.alloc (iObj x T)).drewN m) os) w.heap.size 0 x :=
  ⟨⟨cell_grown (by simp) (by go_simp) m os, cell_grown (by simp) (by go_simp) m os, cell_grown (by simp) (by go_simp) m os⟩, cell_grown (by simp) (by go_simp) m os, cell_grown (by simp) (by go_simp) m os, cell_grown (by simp) (by go_simp) m os, cell_grown (by simp) (by go_simp) m os⟩
theorem eq_zero (k n : Int) (t : ByteArray) : decide ((⟨k, n, t⟩ : V) = ⟨0, 0, ⟨#[]⟩⟩) = decide ((⟨k, n, t⟩ : V) = zV) := rfl
set_option maxHeartbeats 1000000 in
theorem validPart_calls (x : I) (w : World) : Calls Try.prog 36 #[x.val] w fun e w' => e = .returned (.bool (partB x)) ∧ Gro w w' := by
  have mx := mixed
  obtain ⟨⟨fk, fn, ft⟩, ⟨tk, tn, tt⟩, o⟩ := x
  have c0 := fun m os => (box7 w ⟨⟨fk, fn, ft⟩, ⟨tk, tn, tt⟩, o⟩ 57 m os).f.k
  have c1 := fun m os => (box7 w ⟨⟨fk, fn, ft⟩, ⟨tk, tn, tt⟩, o⟩ 57 m os).f.n
  have c2 := fun m os => (box7 w ⟨⟨fk, fn, ft⟩, ⟨tk, tn, tt⟩, o⟩ 57 m os).f.t
  have c3 := fun m os => (box7 w ⟨⟨fk, fn, ft⟩, ⟨tk, tn, tt⟩, o⟩ 57 m os).t0
  have c4 := fun m os => (box7 w ⟨⟨fk, fn, ft⟩, ⟨tk, tn, tt⟩, o⟩ 57 m os).t1
  have c5 := fun m os => (box7 w ⟨⟨fk, fn, ft⟩, ⟨tk, tn, tt⟩, o⟩ 57 m os).t2
  simp only at c0 c1 c2 c3 c4 c5
  have HV1 := Lib.hid (fun w' => wide (valid_calls ⟨fk, fn, ft⟩ w'))
  have HV2 := Lib.hid (fun w' => wide (valid_calls ⟨tk, tn, tt⟩ w'))
  have HCM := Lib.hid (fun w' => wide (compare_calls ⟨fk, fn, ft⟩ ⟨tk, tn, tt⟩ w'))
  obtain ⟨b1, hb1⟩ : ∃ b1, validB ⟨fk, fn, ft⟩ = b1 := ⟨_, rfl⟩
  obtain ⟨b2, hb2⟩ : ∃ b2, validB ⟨tk, tn, tt⟩ = b2 := ⟨_, rfl⟩
  obtain ⟨d, hd⟩ : ∃ d, cmpV ⟨fk, fn, ft⟩ ⟨tk, tn, tt⟩ = d := ⟨_, rfl⟩
  rw [hb1] at HV1
  rw [hb2] at HV2
  rw [hd] at HCM
  cases o
  · have HP : Hid (partB ⟨⟨fk, fn, ft⟩, ⟨tk, tn, tt⟩, false⟩ = (b1 && b2 && decide (d < 0))) := by show _ = _; unfold partB; rw [if_neg (by simp)]; simp only [hb1, hb2, hd]
    clear hb1 hb2 hd
    cases b1
    · go_enter Try.func36, Try.ntmps36
      go_wp2_with (go_at_call 40; refine (HV1.out _).mono ?_; rintro e w' ⟨q, os, rfl, rfl⟩)
      go_ret
      exact ⟨ret_b (by rw [HP.out]; rfl), ((Gro.refl _).alloc _).grown _ _⟩
    · cases b2
      · go_enter Try.func36, Try.ntmps36
        go_wp2_with fail
        refine (HV1.out _).mono ?_
        rintro e w' ⟨q, os, rfl, rfl⟩
        go_wp2_with fail
        refine (HV2.out _).mono ?_
        rintro e w' ⟨q, os, rfl, rfl⟩
        go_wp2
        go_ret
        exact ⟨ret_b (by rw [HP.out]; rfl), ((Gro.refl _).alloc _).grown _ _⟩
      · by_cases hlt : d < 0
        · have hdd : decide (d < 0) = true := by simpa using hlt
          have HDD := Lib.hid hdd
          go_enter Try.func36, Try.ntmps36
          go_wp2_with fail
          refine (HV1.out _).mono ?_
          rintro e w' ⟨q, os, rfl, rfl⟩
          go_wp2_with fail
          refine (HV2.out _).mono ?_
          rintro e w' ⟨q, os, rfl, rfl⟩
          go_wp2_with fail
          refine (HCM.out _).mono ?_
          rintro e w' ⟨q, os, rfl, rfl⟩
          go_wp2
          go_ret
          exact ⟨ret_b (by rw [HP.out, HDD.out]; rfl), ((Gro.refl _).alloc _).grown _ _⟩
        · have hdd : decide (d < 0) = false := by simpa using hlt
          have HDD := Lib.hid hdd
          go_enter Try.func36, Try.ntmps36
          go_wp2_with fail
          refine (HV1.out _).mono ?_
          rintro e w' ⟨q, os, rfl, rfl⟩
          go_wp2_with fail
          refine (HV2.out _).mono ?_
          rintro e w' ⟨q, os, rfl, rfl⟩
          go_wp2_with fail
          refine (HCM.out _).mono ?_
          rintro e w' ⟨q, os, rfl, rfl⟩
          go_wp2
          go_ret
          exact ⟨ret_b (by rw [HP.out, HDD.out]; rfl), ((Gro.refl _).alloc _).grown _ _⟩
  · obtain ⟨bz, hbz⟩ : ∃ bz, decide ((⟨tk, tn, tt⟩ : V) = zV) = bz := ⟨_, rfl⟩
    have HP : Hid (partB ⟨⟨fk, fn, ft⟩, ⟨tk, tn, tt⟩, true⟩ = (b1 && bz)) := by show _ = _; unfold partB; rw [if_pos (by simp)]; simp only [hb1, hbz]
    have he : ∀ w, (binOp .eql 25 (.agg #[.int .i64 tk, .int .i64 tn, .string tt]) (.agg #[.int .i64 0, .int .i64 0, .string ⟨#[]⟩])).run Try.prog w = .ok (.bool bz) w := fun w => by rw [eql_V, eq_zero, hbz]
    clear hb1 hb2 hd hbz
    cases b1
    · go_enter Try.func36, Try.ntmps36
      go_wp2_with (go_at_call 40; refine (HV1.out _).mono ?_; rintro e w' ⟨q, os, rfl, rfl⟩)
      go_ret
      exact ⟨ret_b (by rw [HP.out]; rfl), ((Gro.refl _).alloc _).grown _ _⟩
    · go_enter Try.func36, Try.ntmps36
      go_wp2_with (go_at_call 40; refine (HV1.out _).mono ?_; rintro e w' ⟨q, os, rfl, rfl⟩)
      go_ret
      exact ⟨ret_b (by rw [HP.out]; rfl), ((Gro.refl _).alloc _).grown _ _⟩

set_option maxHeartbeats 1000000 in
theorem separate_calls (x y : I) (w : World) : Calls Try.prog 37 #[x.val, y.val] w fun e w' => e = .returned (.bool (sepB x y)) ∧ Gro w w' := by
  obtain ⟨⟨fk, fn, ft⟩, ⟨tk, tn, tt⟩, o⟩ := x
  obtain ⟨⟨gk, gn, gt⟩, ⟨uk, un, ut⟩, q⟩ := y
  have HCM := Lib.hid (fun w' => wide (compare_calls ⟨tk, tn, tt⟩ ⟨gk, gn, gt⟩ w'))
  obtain ⟨d, hd⟩ : ∃ d, cmpV ⟨tk, tn, tt⟩ ⟨gk, gn, gt⟩ = d := ⟨_, rfl⟩
  rw [hd] at HCM
  have HP : Hid (sepB ⟨⟨fk, fn, ft⟩, ⟨tk, tn, tt⟩, o⟩ ⟨⟨gk, gn, gt⟩, ⟨uk, un, ut⟩, q⟩ = (!o && decide (d < 0))) := by show _ = _; unfold sepB; simp only [hd]
  clear hd
  cases o
  · by_cases hlt : d < 0
    · have HDD : Hid (decide (d < 0) = true) := by show _ = _; simpa using hlt
      go_enter Try.func37, Try.ntmps37
      go_wp2_with fail
      refine (HCM.out _).mono ?_
      rintro e w' ⟨q, os, rfl, rfl⟩
      go_wp2
      go_ret
      exact ⟨ret_b (by rw [HP.out, HDD.out]; rfl), (((Gro.refl _).alloc _).alloc _).grown _ _⟩
    · have HDD : Hid (decide (d < 0) = false) := by show _ = _; simpa using hlt
      go_enter Try.func37, Try.ntmps37
      go_wp2_with fail
      refine (HCM.out _).mono ?_
      rintro e w' ⟨q, os, rfl, rfl⟩
      go_wp2
      go_ret
      exact ⟨ret_b (by rw [HP.out, HDD.out]; rfl), (((Gro.refl _).alloc _).alloc _).grown _ _⟩
  · go_enter Try.func37, Try.ntmps37
    go_wp2
    go_ret
    exact ⟨ret_b (by rw [HP.out]; rfl), ((Gro.refl _).alloc _).alloc _⟩
end Go.Proofs.Ytmjokpakekfkfaa
