import Derived.Test.YtmjokpakekfkfaaForms2
import Derived.ProofKit
import Derived.OpenShut
import Derived.ShutString
import Derived.ChangeOld
import Derived.Lib.SmallJoins
import Derived.Laws.AppendOwn
import Derived.Laws.AppendOwnNone
import Derived.Laws.CopyOwn
/- The contract of the reference's Next. -/
set_option linter.unusedSimpArgs false
set_option linter.unusedVariables false
namespace Go.Proofs.Ytmjokpakekfkfaa
open Go.RowKit

theorem refNext_invalid (v : V) (hv : validB v = false) (w : World) : Calls Try.prog 55 #[v.val] w fun e w' => e = .returned (both none) ∧ Gro w w' := by
  obtain ⟨k, n, t⟩ := v
  have Hv := Lib.hid hv
  clear hv
  go_enter Try.func55, Try.ntmps55
  go_wp2_with (go_at_call 44; refine (wide (refValid_calls ⟨k, n, t⟩ _)).mono ?_; rw [Hv.out]; rintro e w' ⟨q, os, rfl, rfl⟩)
  exact bodyPost_ret (v := both none) (by simp [results, Try.results55, go_sem, V.val, both, zeroV]; try rfl) rfl ⟨rfl, (((Gro.refl _).alloc _).alloc _).grown _ _⟩

theorem refNext_missing (w : World) : Calls Try.prog 55 #[V.val ⟨1, 0, ByteArray.empty⟩] w fun e w' => e = .returned (both (some ⟨2, 0, ByteArray.empty⟩)) ∧ Gro w w' := by
  have Hv : Hid (validB ⟨1, 0, ByteArray.empty⟩ = true) := by show _ = _; simp [validB, validP]
  go_enter Try.func55, Try.ntmps55
  go_wp2_with (go_at_call 44; refine (wide (refValid_calls ⟨1, 0, ByteArray.empty⟩ _)).mono ?_; rw [Hv.out]; rintro e w' ⟨q, os, rfl, rfl⟩)
  exact bodyPost_ret (v := both (some ⟨2, 0, ByteArray.empty⟩)) (by simp [results, Try.results55, go_sem, V.val, both]; try rfl) rfl ⟨rfl, (((Gro.refl _).alloc _).alloc _).grown _ _⟩

theorem refNext_hidden (w : World) : Calls Try.prog 55 #[V.val ⟨2, 0, ByteArray.empty⟩] w fun e w' => e = .returned (both (some ⟨3, 0, ByteArray.empty⟩)) ∧ Gro w w' := by
  have Hv : Hid (validB ⟨2, 0, ByteArray.empty⟩ = true) := by show _ = _; simp [validB, validP]
  go_enter Try.func55, Try.ntmps55
  go_wp2_with (go_at_call 44; refine (wide (refValid_calls ⟨2, 0, ByteArray.empty⟩ _)).mono ?_; rw [Hv.out]; rintro e w' ⟨q, os, rfl, rfl⟩)
  exact bodyPost_ret (v := both (some ⟨3, 0, ByteArray.empty⟩)) (by simp [results, Try.results55, go_sem, V.val, both]; try rfl) rfl ⟨rfl, (((Gro.refl _).alloc _).alloc _).grown _ _⟩

theorem refNext_false (w : World) : Calls Try.prog 55 #[V.val ⟨3, 0, ByteArray.empty⟩] w fun e w' => e = .returned (both (some ⟨3, 1, ByteArray.empty⟩)) ∧ Gro w w' := by
  have Hv : Hid (validB ⟨3, 0, ByteArray.empty⟩ = true) := by show _ = _; simp [validB, validP]
  go_enter Try.func55, Try.ntmps55
  go_wp2_with (go_at_call 44; refine (wide (refValid_calls ⟨3, 0, ByteArray.empty⟩ _)).mono ?_; rw [Hv.out]; rintro e w' ⟨q, os, rfl, rfl⟩)
  exact bodyPost_ret (v := both (some ⟨3, 1, ByteArray.empty⟩)) (by simp [results, Try.results55, go_sem, V.val, both]; try rfl) rfl ⟨rfl, (((Gro.refl _).alloc _).alloc _).grown _ _⟩

theorem refNext_true (w : World) : Calls Try.prog 55 #[V.val ⟨3, 1, ByteArray.empty⟩] w fun e w' => e = .returned (both (some ⟨4, -9223372036854775808, ByteArray.empty⟩)) ∧ Gro w w' := by
  have Hv : Hid (validB ⟨3, 1, ByteArray.empty⟩ = true) := by show _ = _; simp [validB, validP]
  go_enter Try.func55, Try.ntmps55
  go_wp2_with (go_at_call 44; refine (wide (refValid_calls ⟨3, 1, ByteArray.empty⟩ _)).mono ?_; rw [Hv.out]; rintro e w' ⟨q, os, rfl, rfl⟩)
  exact bodyPost_ret (v := both (some ⟨4, -9223372036854775808, ByteArray.empty⟩)) (by simp [results, Try.results55, go_sem, V.val, both]; try rfl) rfl ⟨rfl, (((Gro.refl _).alloc _).alloc _).grown _ _⟩

set_option maxRecDepth 100000 in
theorem refNext_int (n : Int) (h0 : -9223372036854775808 ≤ n) (w : World) : Calls Try.prog 55 #[V.val ⟨4, n, ByteArray.empty⟩] w fun e w' => e = .returned (both (nextV ⟨4, n, ByteArray.empty⟩)) ∧ Gro w w' := by
  have Hv : Hid (validB ⟨4, n, ByteArray.empty⟩ = true) := by show _ = _; simp [validB, validP]
  by_cases h : n < 9223372036854775807
  · have E1 : Hid (both (nextV ⟨4, n, ByteArray.empty⟩) = both (some ⟨4, n + 1, ByteArray.empty⟩)) := by show _ = _; rw [nextV_int h]
    have E2 : Hid (wrap64 (n + 1) = n + 1) := wrap_next n h0 h
    have hd : decide (n < 9223372036854775807) = true := by simpa using h
    clear h h0
    go_enter Try.func55, Try.ntmps55
    go_wp2_with (go_at_call 44; refine (wide (refValid_calls ⟨4, n, ByteArray.empty⟩ _)).mono ?_; rw [Hv.out]; rintro e w' ⟨q, os, rfl, rfl⟩)
    exact bodyPost_ret (v := both (some ⟨4, wrap64 (n + 1), ByteArray.empty⟩)) (by simp [results, Try.results55, go_sem, V.val, both]; try rfl) rfl ⟨by rw [E1.out, E2.out], (((Gro.refl _).alloc _).alloc _).grown _ _⟩
  · have E1 : Hid (both (nextV ⟨4, n, ByteArray.empty⟩) = both (some ⟨5, 0, ByteArray.empty⟩)) := by show _ = _; rw [nextV_last h]
    have hd : decide (n < 9223372036854775807) = false := by simpa using h
    clear h h0
    go_enter Try.func55, Try.ntmps55
    go_wp2_with (go_at_call 44; refine (wide (refValid_calls ⟨4, n, ByteArray.empty⟩ _)).mono ?_; rw [Hv.out]; rintro e w' ⟨q, os, rfl, rfl⟩)
    exact bodyPost_ret (v := both (some ⟨5, 0, ByteArray.empty⟩)) (by simp [results, Try.results55, go_sem, V.val, both]; try rfl) rfl ⟨by rw [E1.out], (((Gro.refl _).alloc _).alloc _).grown _ _⟩

theorem mod_u8 (x : UInt8) (h : (x.toNat : Int) < 255) : ((x.toNat : Int) + 1) % 256 = ((x + 1).toNat : Int) := by
  have : (x + 1).toNat = x.toNat + 1 := by rw [UInt8.toNat_add]; simp; omega
  rw [this]
  omega
set_option maxRecDepth 100000 in
theorem refNext_text (t : ByteArray) (ht : t.size ≤ 64) (w : World) : Calls Try.prog 55 #[V.val ⟨5, 0, t⟩] w fun e w' => e = .returned (both (nextTV t)) ∧ Gro w w' := by
  have mx := mixed
  have Hv : Hid (validB ⟨5, 0, t⟩ = true) := by show _ = _; simp [validB, validP, ht]
  by_cases h : t.size < 64
  · have e1 : both (nextTV t) = .tuple #[V.val ⟨5, 0, more t⟩, .bool true] := by simp [nextTV, nextT, h, both]
    rw [e1]
    clear e1
    have h' : decide ((t.size : Int) < 64) = true := by simp; omega
    go_enter Try.func55, Try.ntmps55
    go_wp2_with (go_at_call 44; refine (wide (refValid_calls ⟨5, 0, t⟩ _)).mono ?_; rw [Hv.out]; rintro e w' ⟨q, os, rfl, rfl⟩)
    exact bodyPost_ret (v := .tuple #[V.val ⟨5, 0, more t⟩, .bool true]) (by simp [results, Try.results55, go_sem, V.val, more]; try rfl) rfl ⟨rfl, (((Gro.refl _).alloc _).alloc _).grown _ _⟩
  · have h' : decide ((t.size : Int) < 64) = false := by simp; omega
    go_enter Try.func55, Try.ntmps55
    go_wp2_with (go_at_call 44; refine (wide (refValid_calls ⟨5, 0, t⟩ _)).mono ?_; rw [Hv.out]; rintro e w' ⟨q, os, rfl, rfl⟩)
    go_loop [4] (fun i => ∃ m : Nat, m ≤ t.size ∧ i = .int .i64 (m : Int) ∧ lastLow t.data.toList m = lastLow t.data.toList t.size) (fun i => (intOf i).toNat)
    case atStart => exact ⟨t.size, Nat.le_refl _, rfl, rfl⟩
    case round =>
      obtain ⟨m, hm, rfl, hl⟩ := hrel
      have HL := Lib.hid hl
      clear hl
      rcases m with _ | m
      · have e1 : both (nextTV t) = .tuple #[V.val ⟨0, 0, ByteArray.empty⟩, .bool false] := by
          have e2 := HL.out
          simp only [lastLow] at e2
          simp [both, nextTV, nextT, h, ← e2, zeroV]
        have E1 := Lib.hid e1
        clear e1
        rw [show ((0 : Nat) : Int) = 0 from rfl]
        go_wp2
        exact bodyPost_ret (v := .tuple #[V.val ⟨0, 0, ByteArray.empty⟩, .bool false]) (by simp [results, Try.results55, go_sem, V.val]; try rfl) rfl ⟨by rw [E1.out], (((Gro.refl _).alloc _).alloc _).grown _ _⟩
      · have hlt : m < t.size := hm
        have hpos : decide (0 < ((m + 1 : Nat) : Int)) = true := by simp <;> omega
        clear hm
        go_wp2_with fail
        · have hx : (((t[m].toNat : Int)) == 255) = true := by assumption
          have heq : t.data.toList.getD m 0 = 255 := by
            rw [getD_at t m hlt]
            apply UInt8.toNat_inj.1
            simp at hx
            simp
            omega
          refine ⟨⟨m, by omega, rfl, ?_⟩, by simp [intOf] <;> omega⟩
          have e2 := HL.out
          simp only [lastLow] at e2
          rw [if_pos heq] at e2
          exact e2
        · have hx : (((t[m].toNat : Int)) == 255) = false := by assumption
          have hx2 : (t[m].toNat : Int) < 255 := by
            have := t[m].toNat_lt
            simp at hx
            omega
          have hne : ¬ t.data.toList.getD m 0 = 255 := by rw [getD_at t m hlt]; intro h; rw [h] at hx2; simp at hx2
          have e1 : both (nextTV t) = .tuple #[V.val ⟨5, 0, t.extract 0 m ++ ⟨#[t[m] + 1]⟩⟩, .bool true] := by
            have e2 := HL.out
            simp only [lastLow] at e2
            rw [if_neg hne] at e2
            have hb : bump t m = t.extract 0 m ++ ⟨#[t[m] + 1]⟩ := by unfold bump; rw [getD_at t m hlt]
            simp [both, nextTV, nextT, h, ← e2, hb]
          have E1 := Lib.hid e1
          clear e1 hne
          obtain ⟨W, hW⟩ : ∃ W, W = Sort.grow (((w.alloc (.cells #[.int .i64 5, .int .i64 0, .string t] 25)).alloc (.cells #[.int .i64 0, .int .i64 0, .string ⟨#[]⟩] 25)).drewN q) os := ⟨_, rfl⟩
          rw [← hW]
          have k2 : W.cell? ⟨w.heap.size, 2, none⟩ = some (.string t) := by rw [hW]; go_simp
          have r0 : W.cell? ⟨w.heap.size + 1, 0, none⟩ = some (.int .i64 0) := by rw [hW]; go_simp
          have r1 : W.cell? ⟨w.heap.size + 1, 1, none⟩ = some (.int .i64 0) := by rw [hW]; go_simp
          have r2 : W.cell? ⟨w.heap.size + 1, 2, none⟩ = some (.string ⟨#[]⟩) := by rw [hW]; go_simp
          have f0 : W.frozen? ⟨w.heap.size + 1, 0, none⟩ = false := by rw [hW]; go_simp
          have f1 : W.frozen? ⟨w.heap.size + 1, 1, none⟩ = false := by rw [hW]; go_simp
          have f2 : W.frozen? ⟨w.heap.size + 1, 2, none⟩ = false := by rw [hW]; go_simp
          have sz : w.heap.size + 1 < W.heap.size := by rw [hW]; simp [World.drewN]; omega
          have sz0 : w.heap.size < W.heap.size := by omega
          have hg : Gro w W := by rw [hW]; exact (((Gro.refl _).alloc _).alloc _).grown _ _
          have HG := Lib.hid hg
          have HX2 := Lib.hid hx2
          have hle : m ≤ t.size := by omega
          have e3 : ((m : Int) + 1 - 1) = (m : Int) := by omega
          have hconv : (convert 22 9 (.slice (some ⟨W.heap.size, 0, none⟩) 1 1)).run Try.prog ((W.alloc (.cells #[.int .u8 (((t[m].toNat : Int) + 1) % 256)] 5)).drew) = .ok (.string ⟨#[t[m] + 1]⟩) ((W.alloc (.cells #[.int .u8 (((t[m].toNat : Int) + 1) % 256)] 5)).drew) :=
            conv_one _ _ _ (by rw [mod_u8 _ hx2]; go_simp)
          clear hW hg hx2
          go_region
          clear hconv
          go_wp2
          exact bodyPost_ret (v := .tuple #[V.val ⟨5, 0, t.extract 0 m ++ ⟨#[t[m] + 1]⟩⟩, .bool true]) (by simp [results, Try.results55, go_sem, V.val, r0, r1, r2, sz]; try rfl) rfl ⟨by rw [E1.out], ((((HG.out.setCell (Nat.le_succ _) _).setCell (Nat.le_succ _) _).setCell (Nat.le_succ _) _).alloc _).drew⟩

theorem refNext_calls (v : V) (h0 : -9223372036854775808 ≤ v.n) (w : World) : Calls Try.prog 55 #[v.val] w fun e w' => e = .returned (both (nextV v)) ∧ Gro w w' := by
  by_cases hv : validB v = true
  · have hp : validP v := by simpa [validB] using hv
    obtain ⟨k, n, t⟩ := v
    rcases hp with ⟨hk, hn, ht⟩ | ⟨hk, hn, ht⟩ | ⟨hk, ht⟩ | ⟨hk, hn, ht⟩
    · simp only at hk hn ht
      subst hn ht
      rcases hk with hk | hk
      · subst hk; exact refNext_missing w
      · subst hk; exact refNext_hidden w
    · simp only at hk hn ht
      subst hk ht
      rcases hn with hn | hn
      · subst hn; exact refNext_false w
      · subst hn; exact refNext_true w
    · simp only at hk ht
      subst hk ht
      exact refNext_int n h0 w
    · simp only at hk hn ht
      subst hk hn
      rw [nextV_text hv]
      exact refNext_text t ht w
  · simp only [Bool.not_eq_true] at hv
    rw [nextV_invalid hv]
    exact refNext_invalid v hv w
end Go.Proofs.Ytmjokpakekfkfaa

/- Regions whose callees leave what was there as it was, whatever they draw; and how the arguments of the laws are opened. -/
set_option linter.unusedSimpArgs false
set_option linter.unusedVariables false
namespace Go.Proofs.Ytmjokpakekfkfaa
open Go.ChangeShapes Go.WideShapes Go.ChangeAt Go.RowKit Go.Joins

/-- The world after some other number of draws. -/
def loose (w : World) (d : Nat) : World := { w with drawn := d }
theorem Below.loose {w w' : World} (h : Below w.heap.size w w') : ∃ d os, w' = Sort.grow (loose w d) os := by
  obtain ⟨h1, h2, h3, h4, h5⟩ := h
  refine ⟨w'.drawn, w'.heap.extract w.heap.size w'.heap.size, ?_⟩
  cases w'
  cases w
  simp only at h1 h2 h3 h4 h5
  subst h1 h2 h3
  simp only [Sort.grow, Go.Proofs.Ytmjokpakekfkfaa.loose, World.mk.injEq, true_and, and_true]
  apply Array.ext_getElem?
  intro k
  rw [Array.getElem?_append]
  split
  · exact h5 k ‹_›
  · rw [Array.getElem?_extract]
    rename_i hk
    split
    · congr 1; omega
    · rename_i hk2; rw [Array.getElem?_eq_none]; omega
@[go_sem] theorem size_loose (w : World) (d : Nat) (os : Array Obj) : (Sort.grow (loose w d) os).heap.size = w.heap.size + os.size := by simp [loose]
@[go_sem] theorem cell_loose (w : World) (d : Nat) (os : Array Obj) (n i : Nat) (h : n < w.heap.size) : (Sort.grow (loose w d) os).cell? ⟨n, i, none⟩ = w.cell? ⟨n, i, none⟩ := by
  rw [Sort.cell?_grow _ _ _ (by simpa [loose] using h)]; rfl
@[go_sem] theorem frozen_loose (w : World) (d : Nat) (os : Array Obj) (n i : Nat) (h : n < w.heap.size) : (Sort.grow (loose w d) os).frozen? ⟨n, i, none⟩ = w.frozen? ⟨n, i, none⟩ := by
  rw [Sort.frozen?_grow _ _ _ (by simpa [loose] using h)]; rfl
theorem below_loose (w : World) (d : Nat) (os : Array Obj) : Below w.heap.size w (Sort.grow (loose w d) os) :=
  ⟨rfl, rfl, rfl, by simp [loose], fun k hk => by simp only [Sort.grow, loose]; rw [Array.getElem?_append, if_pos hk]⟩
theorem wp_region_quiet_loose {id : Nat} {Q : Exit → Act → World → Prop} {a : Act} {w : World} {l : List Oper} (hm : Try.prog.follows .mixedOrders = true) (hB : Region.lexB .any l.toArray = true)
    (h : wpQuiet Try.prog l.toArray (fun w' => ∃ p : GrownBy, w' = Sort.grow (loose w p.n) p.os) (fun a' => ∀ w', (∃ p : GrownBy, w' = Sort.grow (loose w p.n) p.os) → Q .normal a' w') l a) : (Code.region id l.toArray true).wp Try.prog Q a w :=
  wp_region_quiet (C := fun w' => ∃ p : GrownBy, w' = Sort.grow (loose w p.n) p.os) hm hB ⟨⟨w.drawn + 1, #[]⟩, by rw [Sort.grow_empty]; rfl⟩ (by simpa using h)
theorem loose_calls {f : FuncId} {args : Array Value} {w : World} {n : Nat} {os : Array Obj} {v : Value}
    (h : Calls Try.prog f args (Sort.grow (loose w n) os) fun e w' => e = .returned v ∧ Below (Sort.grow (loose w n) os).heap.size (Sort.grow (loose w n) os) w') :
    Calls Try.prog f args (Sort.grow (loose w n) os) fun e w'' => e = .returned v ∧ ∃ p : GrownBy, w'' = Sort.grow (loose w p.n) p.os :=
  h.mono fun _ _ ⟨he, hb⟩ => by
    obtain ⟨d, os', hw⟩ := Below.loose hb
    refine ⟨he, ⟨d, os ++ os'⟩, ?_⟩
    rw [hw]
    simp [Sort.grow, loose]
/-- A contract that only grows serves, too. -/
theorem gro_loose {f : FuncId} {args : Array Value} {w : World} {n : Nat} {os : Array Obj} {v : Value}
    (h : Calls Try.prog f args (Sort.grow (loose w n) os) fun e w' => e = .returned v ∧ Gro (Sort.grow (loose w n) os) w') :
    Calls Try.prog f args (Sort.grow (loose w n) os) fun e w'' => e = .returned v ∧ ∃ p : GrownBy, w'' = Sort.grow (loose w p.n) p.os :=
  loose_calls (h.mono fun _ _ ⟨he, hg⟩ => ⟨he, hg.below⟩)

/-! ### arguments -/
/-- A variable's block that holds a value. -/
structure Box (w : World) (b : Nat) (v : V) : Prop where
  lt : b < w.heap.size
  at_ : At w b 0 v
theorem Box.later {w w' : World} {b : Nat} {v : V} (h : Box w b v) (hw : Below w.heap.size w w') : Box w' b v := ⟨Nat.lt_of_lt_of_le h.lt hw.size, h.at_.later h.lt hw⟩
theorem Box.kept {w w' : World} {b c : Nat} {v : V} (h : Box w b v) (hw : w.grownBy w' (some c)) (hne : b ≠ c) : Box w' b v :=
  ⟨Nat.lt_of_lt_of_le h.lt hw.size, ⟨hw.cell h.at_.k (by simp; exact hne), hw.cell h.at_.n (by simp; exact hne), hw.cell h.at_.t (by simp; exact hne)⟩⟩
theorem Box.new (w : World) (v : V) (T : TypeId) : Box (w.alloc (.cells #[.int .i64 v.k, .int .i64 v.n, .string v.t] T)) w.heap.size v :=
  ⟨by simp, ⟨by go_simp, by go_simp, by go_simp⟩⟩
theorem Box.alloc {w : World} {b : Nat} {v : V} (h : Box w b v) (o : Obj) : Box (w.alloc o) b v := h.later ((Below.refl _ _).alloc (Nat.le_refl _) o)
theorem Box.cells {w : World} {b : Nat} {k n : Int} {t : ByteArray} (h : Box w b ⟨k, n, t⟩) :
    b < w.heap.size ∧ w.cell? ⟨b, 0, none⟩ = some (.int .i64 k) ∧ w.cell? ⟨b, 1, none⟩ = some (.int .i64 n) ∧ w.cell? ⟨b, 2, none⟩ = some (.string t) :=
  ⟨h.lt, h.at_.k, h.at_.n, h.at_.t⟩

set_option maxRecDepth 100000 in
theorem own : ownKnob Try.prog.godebug = none := by kernel_rfl
set_option maxRecDepth 100000 in
theorem laidOut : laidOutB Try.prog = true := by kernel_rfl
set_option maxRecDepth 100000 in
theorem cells24 : Try.prog.cellsOf 25 = 3 := by kernel_rfl

section
variable {H : Type} {enc : TypeId × Value → H} {w : World} {base : Nat} {spare : Nat → Bool} {held : Bool}
set_option maxRecDepth 100000 in
/-- A value that came in. -/
theorem open_V {r : Reach} {b0 : Nat} {v : Value} {d : DataW H} {p : List MemPlace} (hv : Value.okWide Try.prog w r b0 25 v) (h : DataW.Trod enc Try.prog w base spare held 25 v d p) :
    ∃ x : V, v = x.val ∧ -9223372036854775808 ≤ x.n := by
  obtain ⟨c0, c1, c2, y0, y1, y2, m, rfl, rfl, rfl, hy0, hy1, hy2⟩ := open_agg3 Try.underlying25 (by kernel_rfl) cells24 hv h
  obtain ⟨a, e0, rfl, wa⟩ := DataW.trod_int Try.underlying3 hy0
  obtain ⟨b, e1, rfl, wb⟩ := DataW.trod_int Try.underlying2 hy1
  obtain ⟨s, e2, rfl, hsz⟩ := DataW.trod_string Try.underlying9 hy2
  simp at e0 e1 e2
  subst e0 e1 e2
  refine ⟨⟨a, b, s⟩, rfl, ?_⟩
  have := wb
  simp [Lit.wf, IntKind.min, IntKind.max, IntKind.bits, IntKind.signed] at this
  exact this.1
set_option maxRecDepth 100000 in
/-- A slice of bytes that came in. -/
theorem open_codes {r : Reach} {b0 : Nat} {v : Value} {d : DataW H} {p : List MemPlace} (hv : Value.okWide Try.prog w r b0 22 v) (h : DataW.Trod enc Try.prog w base (fun _ => true) held 22 v d p) :
    ∃ a len cap zs, v = .slice a len cap ∧ IsRow .u8 w a len cap zs := by
  obtain ⟨a0, len0, cap0, rfl⟩ := okWide_slice Try.underlying22 hv
  obtain ⟨fuel, hf⟩ := h
  rcases open_ints Try.underlying22 Try.underlying5 (by kernel_rfl) hf with ⟨hcs, _⟩ | ⟨x, l, c, zs, hcs, _, hl, hm, hz, _, hcell, hwz⟩
  · simp [Value.cells] at hcs
    obtain ⟨rfl, rfl, rfl⟩ := hcs
    exact ⟨_, _, _, [], rfl, .inl ⟨rfl, rfl, rfl, rfl⟩⟩
  · simp [Value.cells] at hcs
    obtain ⟨rfl, rfl, rfl⟩ := hcs
    exact ⟨_, _, _, zs, rfl, .inr ⟨_, rfl, hl, hm, by simpa using hz, hcell, hwz⟩⟩
end
end Go.Proofs.Ytmjokpakekfkfaa

/- Contracts of partsynccase.Case's Bool and Cells. -/
set_option linter.unusedSimpArgs false
set_option linter.unusedVariables false
namespace Go.Proofs.Ytmjokpakekfkfaa
open Go.RowKit

def GotB (b : Nat) (c : CaseId) (w : World) (e : Ending) (w' : World) : Prop := ∃ x : Bool, e = .returned (.bool x) ∧ CaseAt w' b c ∧ w.grownBy w' (some b)
theorem bool_calls (b : Nat) (c : CaseId) (w : World) (hc : CaseAt w b c) : Calls Try.prog 34 #[.pointer (some ⟨b, 0, none⟩), .int .i64 3] w (GotB b c w) := by
  have hi := int_calls b c 3 (by omega) (by omega) w hc
  have HI := Lib.hid hi
  clear hi hc
  go_enter Try.func34, Try.ntmps34
  go_wp2_with fail
  refine HI.out.mono ?_
  rintro e w' ⟨x, rfl, hx0, hx1, hcs, hby⟩
  have HC := Lib.hid hcs
  have HB := Lib.hid hby
  clear hcs hby HI
  go_wp2
  go_ret
  exact ⟨_, rfl, HC.out, HB.out⟩

theorem flat_snoc (r : List V) (v : V) : flat (r ++ [v]) = flat r ++ [.int .i64 v.k, .int .i64 v.n, .string v.t] := by
  induction r with
  | nil => rfl
  | cons a r ih => simp [flat, ih]
theorem by_mono {w w' : World} {r r' : Option Nat} (h : w.grownBy w' r) (hr : ∀ k, k < w.heap.size → some k ≠ r' → some k ≠ r) : w.grownBy w' r' :=
  ⟨h.os, h.tape, h.output, h.size, fun k hk hn => h.block k hk (hr k hk hn)⟩

theorem by_own {w0 w w' : World} {b : Nat} {r : Option Nat} (h : w0.grownBy w (some b)) (hg : w.grownBy w' r) (hr : ∀ k, r = some k → w0.heap.size ≤ k) : w0.grownBy w' (some b) :=
  ⟨hg.os.trans h.os, hg.tape.trans h.tape, hg.output.trans h.output, Nat.le_trans h.size hg.size, fun k hk hn => (hg.block k (Nat.lt_of_lt_of_le hk h.size) (fun e => by have := hr k e.symm; omega)).trans (h.block k hk hn)⟩
/-- A change of what is the call's own. -/
theorem CaseAt.kept {w0 w w' : World} {b : Nat} {c : CaseId} {r : Option Nat} (h0 : CaseAt w0 b c) (h : CaseAt w b c) (hg : w.grownBy w' r) (hr : ∀ k, r = some k → w0.heap.size ≤ k) : CaseAt w' b c := by
  obtain ⟨pos, h⟩ := h
  obtain ⟨pos0, h0⟩ := h0
  have hb := h0.lt
  have hne : ∀ k, k < w0.heap.size → some k ≠ r := fun k hk e => by have := hr k e.symm; omega
  refine ⟨pos, Nat.lt_of_lt_of_le h.lt hg.size, hg.cell h.c0 (hne _ hb), hg.cell h.c1 (hne _ hb), by rw [World.frozen?_of_block (w := w) (hg.block b h.lt (hne _ hb))]; exact h.f1, h.le, h.few, ?_⟩
  rcases h0.num with h0n | ⟨g0, off0, e0, h00, _⟩
  · exact .inl h0n
  · rcases h.num with hn' | ⟨g, off, e, h1, h2, h3⟩
    · exact .inl hn'
    · rw [e0] at e
      simp only [Option.some.injEq, Addr.mk.injEq] at e
      obtain ⟨rfl, rfl, -⟩ := e
      exact .inr ⟨g0, off0, e0, Nat.lt_of_lt_of_le h1 hg.size, h2, fun i hi => let ⟨x, k1, k2⟩ := h3 i hi; ⟨x, hg.cell k1 (hne _ h00), k2⟩⟩
theorem cell_three_new (w : World) (x y z : Value) (t : TypeId) : ∀ j u, [x, y, z][j]? = some u → (w.alloc (.cells #[x, y, z] t)).cell? ((⟨w.heap.size, 0, none⟩ : Addr).add j) = some u := by
  intro j u hj
  rcases j with _ | _ | _ | j
  · simp at hj; subst hj; show (w.alloc _).cell? ⟨w.heap.size, 0 + 0, none⟩ = _; go_simp
  · simp at hj; subst hj; show (w.alloc _).cell? ⟨w.heap.size, 0 + 1, none⟩ = _; go_simp
  · simp at hj; subst hj; show (w.alloc _).cell? ⟨w.heap.size, 0 + 2, none⟩ = _; go_simp
  · simp at hj
theorem own_far {w : World} {base b : Nat} {e : TypeId} {size n : Nat} {v : Value} {xs : List Value} (h : w.ownsRow base e size v n xs) (hb : b < base) : v.ownBlock = none ∨ v.ownBlock ≠ some b := by
  cases hv : v.ownBlock with
  | none => exact .inl rfl
  | some k => right; intro e; cases e; have := (h.lt b hv).1; omega

theorem wrap_pred (k : Nat) (h0 : 0 < k) (h : k ≤ 4398046511104) : wrap64 ((k : Int) - 1) = (k : Int) - 1 := by
  unfold wrap64
  omega
def GotRow (b : Nat) (c : CaseId) (n : Nat) (w : World) (e : Ending) (w' : World) : Prop :=
  ∃ (v : Value) (r : List V), e = .returned v ∧ r.length = n ∧ w'.ownsRow w.heap.size 25 3 v r.length (flat r) ∧ CaseAt w' b c ∧ w.grownBy w' (some b)

/-- All cells are valid values. -/
def AllV (r : List V) : Prop := ∀ x ∈ r, validB x = true ∧ isNum x.n
theorem AllV.snoc {r : List V} (h : AllV r) {x : V} (h1 : validB x = true) (h2 : isNum x.n) : AllV (r ++ [x]) := by
  intro y hy
  rcases List.mem_append.1 hy with hy | hy
  · exact h y hy
  · rw [List.mem_singleton] at hy; subst hy; exact ⟨h1, h2⟩
def GotRowV (b : Nat) (c : CaseId) (n : Nat) (w : World) (e : Ending) (w' : World) : Prop :=
  ∃ (v : Value) (r : List V), e = .returned v ∧ r.length = n ∧ w'.ownsRow w.heap.size 25 3 v r.length (flat r) ∧ CaseAt w' b c ∧ w.grownBy w' (some b) ∧ AllV r

end Go.Proofs.Ytmjokpakekfkfaa

/- Plain mathematics of relations: sorted lists of rows, the list without repetitions, and that there is only one strictly ascending list of given members. -/
set_option linter.unusedSimpArgs false
set_option linter.unusedVariables false
namespace Go.Proofs.Ytmjokpakekfkfaa
open Go.RowKit

/-- Strictly ascending. -/
def Asc (l : List (List V)) : Prop := l.Pairwise (fun a b => cmpR a b < 0)
/-- Ascending, by places. -/
def Srt (l : List (List V)) : Prop := ∀ i j (hi : i < l.length) (hj : j < l.length), i < j → cmpR l[i] l[j] ≤ 0

theorem asc_irr {a : List V} (h : cmpR a a < 0) : False := by rw [goodR.self] at h; omega
theorem Asc.unique {l m : List (List V)} (hl : Asc l) (hm : Asc m) (h : ∀ r, r ∈ l ↔ r ∈ m) : l = m := by
  induction l generalizing m with
  | nil =>
    cases m with
    | nil => rfl
    | cons y m => exact absurd ((h y).2 (by simp)) (by simp)
  | cons x l ih =>
    cases m with
    | nil => exact absurd ((h x).1 (by simp)) (by simp)
    | cons y m =>
      have hx := List.pairwise_cons.1 hl
      have hy := List.pairwise_cons.1 hm
      have hxy : x = y := by
        have h1 := (h x).1 (by simp)
        have h2 := (h y).2 (by simp)
        rcases List.mem_cons.1 h1 with e | e
        · exact e
        · rcases List.mem_cons.1 h2 with e' | e'
          · exact e'.symm
          · exact (asc_irr (goodR.lt_le (hx.1 y e') (Int.le_of_lt (hy.1 x e)))).elim
      subst hxy
      congr 1
      refine ih hx.2 hy.2 fun r => ?_
      have := h r
      simp only [List.mem_cons] at this
      constructor
      · intro hr
        rcases this.1 (Or.inr hr) with e | e
        · subst e; exact (asc_irr (hx.1 r hr)).elim
        · exact e
      · intro hr
        rcases this.2 (Or.inr hr) with e | e
        · subst e; exact (asc_irr (hy.1 r hr)).elim
        · exact e

/-- The first k rows without repetitions of neighbours. -/
def dd (s : List (List V)) : Nat → List (List V)
  | 0 => []
  | k + 1 => if k = 0 ∨ cmpR (s.getD (k - 1) []) (s.getD k []) ≠ 0 then dd s k ++ [s.getD k []] else dd s k
theorem dd_first (s : List (List V)) : dd s 1 = [s.getD 0 []] := by simp [dd]
theorem dd_new {s : List (List V)} {k : Nat} (h : cmpR (s.getD (k - 1) []) (s.getD k []) ≠ 0) : dd s (k + 1) = dd s k ++ [s.getD k []] := by
  simp only [dd]
  rw [if_pos (Or.inr h)]
theorem dd_old {s : List (List V)} {k : Nat} (h0 : k ≠ 0) (h : cmpR (s.getD (k - 1) []) (s.getD k []) = 0) : dd s (k + 1) = dd s k := by
  simp only [dd]
  rw [if_neg]
  rintro (e | e)
  · exact h0 e
  · exact e h
theorem dd_length (s : List (List V)) (k : Nat) : (dd s k).length ≤ k := by
  induction k with
  | zero => simp [dd]
  | succ k ih =>
    simp only [dd]
    split
    · simp; omega
    · omega
theorem dd_holds (s : List (List V)) (hs : Srt s) (k : Nat) (hk : k ≤ s.length) :
    Asc (dd s k) ∧ (∀ r, r ∈ dd s k ↔ r ∈ s.take k) ∧ (k ≠ 0 → (dd s k).getLast? = some (s.getD (k - 1) []) ∧ ∀ r ∈ dd s k, cmpR r (s.getD (k - 1) []) ≤ 0) := by
  induction k with
  | zero => exact ⟨List.Pairwise.nil, by simp [dd], fun h => absurd rfl h⟩
  | succ k ih =>
    obtain ⟨ha, hm, hl⟩ := ih (by omega)
    have hg : s.getD k [] = s[k] := by rw [List.getD_eq_getElem?_getD, List.getElem?_eq_getElem hk]; rfl
    have htk : s.take (k + 1) = s.take k ++ [s.getD k []] := by rw [List.take_succ_eq_append_getElem hk, hg]
    by_cases h0 : k = 0
    · subst h0
      rw [dd_first]
      refine ⟨List.pairwise_singleton _ _, fun r => by rw [htk]; simp, fun _ => ⟨by simp, fun r hr => ?_⟩⟩
      simp at hr
      subst hr
      simp [goodR.self]
    · obtain ⟨hlast, hle⟩ := hl h0
      have hg' : s.getD (k - 1) [] = s[k - 1] := by rw [List.getD_eq_getElem?_getD, List.getElem?_eq_getElem (by omega)]; rfl
      have hstep : cmpR (s.getD (k - 1) []) (s.getD k []) ≤ 0 := by rw [hg, hg']; exact hs (k - 1) k (by omega) hk (by omega)
      by_cases e : cmpR (s.getD (k - 1) []) (s.getD k []) = 0
      · rw [dd_old h0 e]
        have hx := (goodR.zero _ _).1 e
        refine ⟨ha, fun r => ?_, fun _ => ?_⟩
        · rw [htk, List.mem_append, ← hm r]
          constructor
          · exact Or.inl
          · rintro (h | h)
            · exact h
            · simp at h
              rw [h, ← List.getD_eq_getElem?_getD, ← hx]
              exact List.mem_of_getLast? hlast
        · simp only [Nat.add_sub_cancel]
          rw [← hx]
          exact ⟨hlast, hle⟩
      · rw [dd_new e]
        refine ⟨?_, fun r => ?_, fun _ => ⟨by simp, fun r hr => ?_⟩⟩
        · refine List.pairwise_append.2 ⟨ha, List.pairwise_singleton _ _, fun a h1 b h2 => ?_⟩
          simp only [List.mem_singleton] at h2
          subst h2
          exact goodR.le_lt (hle a h1) (by omega)
        · rw [htk, List.mem_append, List.mem_append, hm r]
        · simp only [Nat.add_sub_cancel]
          rcases List.mem_append.1 hr with h | h
          · exact goodR.trans _ _ _ (hle r h) hstep
          · simp only [List.mem_singleton] at h
            rw [h, goodR.self]
            omega

/-- The relation of the rows. -/
def SetOf (rows out : List (List V)) : Prop := Asc out ∧ ∀ r, r ∈ out ↔ r ∈ rows
theorem SetOf.unique {rows rows' out out' : List (List V)} (h : SetOf rows out) (h' : SetOf rows' out') (hm : ∀ r, r ∈ rows ↔ r ∈ rows') : out = out' :=
  Asc.unique h.1 h'.1 fun r => (h.2 r).trans ((hm r).trans (h'.2 r).symm)
theorem setOf_dd {rows s : List (List V)} (hs : Srt s) (hm : ∀ r, r ∈ s ↔ r ∈ rows) : SetOf rows (dd s s.length) := by
  obtain ⟨h1, h2, _⟩ := dd_holds s hs s.length (Nat.le_refl _)
  exact ⟨h1, fun r => by rw [h2 r, List.take_length, hm r]⟩
end Go.Proofs.Ytmjokpakekfkfaa

/- Slices of rows. -/
set_option linter.unusedSimpArgs false
set_option linter.unusedVariables false
namespace Go.Proofs.Ytmjokpakekfkfaa
open Go.RowKit

/-- A slice value that reads as a list of rows. -/
structure RowsIn (w : World) (b off : Nat) (rows : List (List V)) : Prop where
  blk : b < w.heap.size
  at_ : ∀ i (h : i < rows.length), ∃ u, w.cell? ⟨b, off + i, none⟩ = some u ∧ RowAt w u rows[i]
def RowsAt (w : World) (v : Value) (rows : List (List V)) : Prop :=
  ∃ (a : Option Addr) (cap : Nat), v = .slice a rows.length cap ∧ rows.length ≤ 4398046511104 ∧ (rows = [] ∨ ∃ b off, a = some ⟨b, off, none⟩ ∧ RowsIn w b off rows)
theorem RowsIn.later {w w' : World} {b off : Nat} {rows : List (List V)} (h : RowsIn w b off rows) (hw : Below w.heap.size w w') : RowsIn w' b off rows :=
  ⟨Nat.lt_of_lt_of_le h.blk hw.size, fun i hi => let ⟨u, h1, h2⟩ := h.at_ i hi; ⟨u, (hw.cell (p := ⟨b, off + i, none⟩) h.blk).trans h1, h2.later hw⟩⟩
theorem RowsAt.later {w w' : World} {v : Value} {rows : List (List V)} (h : RowsAt w v rows) (hw : Below w.heap.size w w') : RowsAt w' v rows := by
  obtain ⟨a, cap, h1, h2, h3⟩ := h
  exact ⟨a, cap, h1, h2, h3.imp id fun ⟨b, off, h4, h5⟩ => ⟨b, off, h4, h5.later hw⟩⟩

end Go.Proofs.Ytmjokpakekfkfaa

/- The contract of value.Set. -/
set_option linter.unusedSimpArgs false
set_option linter.unusedVariables false
namespace Go.Proofs.Ytmjokpakekfkfaa
open Go.RowKit

/-- 'copy' of the values of a slice of rows into one that the call has just made. -/
theorem run_copy1 (w0 w : World) (hbw : Below w0.heap.size w0 w) (ty : TypeId) (a : Option Addr) (cap n g : Nat) (cur : Array Value) (rows : List (List V)) (hn : n = rows.length) (hg : w.heap[g]? = some (.cells cur 88 (0, 0))) (hcur : cur.size = n)
    (hsrc : rows = [] ∨ ∃ b off, a = some ⟨b, off, none⟩ ∧ RowsIn w0 b off rows) :
    ∃ (w' : World) (us : List Value), (Builtin.copy_ #[87, 87] ty #[.slice (some ⟨g, 0, none⟩) n n, .slice a n cap]).run Try.prog w = .ok (goInt n) w' ∧ us.length = n ∧ (∀ i (h : i < rows.length), RowAt w0 (us.getD i (.slice none 0 0)) rows[i]) ∧
      w'.heap[g]? = some (.cells us.toArray 88 (0, 0)) ∧ w.grownBy w' (some g) := by
  obtain ⟨i, hi, hz, hsz, hby⟩ := info_parts info38
  subst hn
  by_cases hr : rows = []
  · subst hr
    simp only [List.length_nil] at hcur
    obtain rfl : cur = #[] := Array.eq_empty_of_size_eq_zero hcur
    refine ⟨w, [], ?_, rfl, fun i h => absurd h (Nat.not_lt_zero _), hg, ⟨rfl, rfl, rfl, Nat.le_refl _, fun _ _ _ => rfl⟩⟩
    cases a <;> simp [Builtin.copy_, run_underlying Try.underlying87, Builtin.lenOf, Builtin.firstCells, sizeOf, typeInfo, hi, hsz, storeCells, loadCells, loadCellsFrom]
  · obtain ⟨b, off, rfl, hb⟩ := hsrc.resolve_left hr
    have hex : ∃ us : List Value, us.length = rows.length ∧ ∀ i (h : i < rows.length), w.cell? ⟨b, off + i, none⟩ = some (us.getD i (.slice none 0 0)) ∧ RowAt w0 (us.getD i (.slice none 0 0)) rows[i] := by
      refine ⟨(List.range rows.length).map (fun i => (w.cell? ⟨b, off + i, none⟩).getD (.slice none 0 0)), by simp, fun i h => ?_⟩
      obtain ⟨u, h1, h2⟩ := hb.at_ i h
      have h1 : w.cell? ⟨b, off + i, none⟩ = some u := (hbw.cell (p := ⟨b, off + i, none⟩) hb.blk).trans h1
      have he : ((List.range rows.length).map (fun i => (w.cell? ⟨b, off + i, none⟩).getD (.slice none 0 0))).getD i (.slice none 0 0) = u := by
        rw [List.getD_eq_getElem?_getD]
        simp [h, h1]
      rw [he]
      exact ⟨h1, h2⟩
    obtain ⟨us, hul, hus⟩ := hex
    have h1 : ∀ v ∈ us, v.oneCell' = true := fun v hv => by
      obtain ⟨i, hi', he⟩ := List.mem_iff_getElem.1 hv
      obtain ⟨-, a, cap, h, -⟩ := hus i (by omega)
      rw [List.getD_eq_getElem?_getD, List.getElem?_eq_getElem hi', Option.getD_some, he] at h
      rw [h]; rfl
    have hrun := run_copy_row (P := Try.prog) w 87 87 ty 88 g 0 rows.length rows.length ⟨b, off, none⟩ rows.length cap cur 88 us Try.underlying87 (by rw [hi]; simp [hsz]) hg (by simp [hul, Nat.min_def]) (fun j v hj => by
      have hjl : j < us.length := (List.getElem?_eq_some_iff.1 hj).1
      have h2 := (hus j (by omega)).1
      rw [List.getD_eq_getElem?_getD, hj, Option.getD_some] at h2
      rcases j with _ | j <;> simpa [Addr.add] using h2) (by omega) h1
    have hcs : (cur.toList.take 0 ++ us ++ cur.toList.drop (0 + us.length)).toArray = us.toArray := by
      rw [List.drop_eq_nil_of_le (by simp; omega)]; simp
    rw [hcs, hul] at hrun
    exact ⟨w.setRow g us.toArray, us, hrun, hul, fun i h => (hus i h).2, setRow_heap w g cur _ _ _ hg, ⟨rfl, rfl, rfl, by simp [World.setRow], fun k _ hk => setRow_other w g k _ (fun e => hk (by rw [e]))⟩⟩

/-- A list of rows that the call owns: the outer row, and each inner row. -/
def Owned (base : Nat) (w : World) (v : Value) (out : List (List V)) : Prop :=
  ∃ xs : List Value, w.ownsRow base 88 1 v out.length xs ∧ ∀ j (h : j < out.length), ∃ u, xs[j]? = some u ∧ w.ownsRow base 25 3 u out[j].length (flat out[j]) ∧ out[j].length ≤ 4398046511104

theorem Owned.at_ {base : Nat} {w : World} {v : Value} {out : List (List V)} (h : Owned base w v out) (hl : out.length ≤ 4398046511104) : RowsAt w v out := by
  obtain ⟨xs, ho, hi⟩ := h
  have h0 := ho
  obtain ⟨hx, hv | ⟨g, cap, cur, hv, hg, hh, hcap, hm, hs, ht⟩⟩ := ho
  · obtain ⟨rfl, hn⟩ := hv
    obtain rfl : out = [] := List.eq_nil_of_length_eq_zero hn
    exact ⟨none, 0, rfl, by simp, .inl rfl⟩
  · subst hv
    refine ⟨some ⟨g, 0, none⟩, cap, rfl, hl, .inr ⟨g, 0, rfl, (Array.getElem?_eq_some_iff.1 hh).1, fun i h => ?_⟩⟩
    obtain ⟨u, h1, h2, h3⟩ := hi i h
    refine ⟨u, ?_, .of_owned h2 h3⟩
    rw [Nat.zero_add, h0.cellAt i (by omega), h1]

theorem below_grown {w w' : World} (h : Below w.heap.size w w') : w.grownBy w' none := ⟨h.os, h.tape, h.output, h.size, fun k hk _ => h.block k hk⟩
theorem ownsRow_mono {w : World} {base base' : Nat} {e : TypeId} {size : Nat} {v : Value} {n : Nat} {xs : List Value} (h : w.ownsRow base e size v n xs) (hb : base' ≤ base) : w.ownsRow base' e size v n xs :=
  ⟨h.1, h.2.imp id fun ⟨g, cap, cur, h1, h2, h3⟩ => ⟨g, cap, cur, h1, Nat.le_trans hb h2, h3⟩⟩
theorem Owned.mono {base base' : Nat} {w : World} {v : Value} {out : List (List V)} (h : Owned base w v out) (hb : base' ≤ base) : Owned base' w v out := by
  obtain ⟨xs, h1, h2⟩ := h
  exact ⟨xs, ownsRow_mono h1 hb, fun j hj => let ⟨u, a, b, c⟩ := h2 j hj; ⟨u, a, ownsRow_mono b hb, c⟩⟩
theorem Owned.later {base : Nat} {w w' : World} {v : Value} {out : List (List V)} (h : Owned base w v out) (hw : Below w.heap.size w w') : Owned base w' v out := by
  obtain ⟨xs, h1, h2⟩ := h
  have hn : ∀ u : Value, u.ownBlock = none ∨ u.ownBlock ≠ (none : Option Nat) := fun u => by cases u.ownBlock <;> simp
  exact ⟨xs, h1.kept (below_grown hw) (hn _), fun j hj => let ⟨u, a, b, c⟩ := h2 j hj; ⟨u, a, b.kept (below_grown hw) (hn _), c⟩⟩

/-- The outer row's block is not an inner row's. -/
theorem own_ne {w : World} {base base' n m : Nat} {v u : Value} {xs ys : List Value} (h : w.ownsRow base 88 1 v n xs) (h' : w.ownsRow base' 25 3 u m ys) : u.ownBlock = none ∨ u.ownBlock ≠ v.ownBlock := by
  obtain ⟨_, hv | ⟨g, cap, cur, hv, hg, hh, _⟩⟩ := h
  · obtain ⟨_, hu | ⟨g', cap', cur', hu, hg', hh', _⟩⟩ := h'
    · left; rw [hu.1]; rfl
    · right; rw [hu, hv.1]; simp [Value.ownBlock]
  · obtain ⟨_, hu | ⟨g', cap', cur', hu, hg', hh', _⟩⟩ := h'
    · left; rw [hu.1]; rfl
    · right
      rw [hu, hv]
      simp only [Value.ownBlock, ne_eq, Option.some.injEq]
      rintro rfl
      rw [hh] at hh'
      simp at hh'
/-- One more row behind the others. -/
theorem Owned.snoc {base : Nat} {w w2 : World} {v v' u : Value} {out : List (List V)} {xs : List Value} {r : List V}
    (ho : w.ownsRow base 88 1 v out.length xs) (hi : ∀ j (h : j < out.length), ∃ u, xs[j]? = some u ∧ w.ownsRow base 25 3 u out[j].length (flat out[j]) ∧ out[j].length ≤ 4398046511104)
    (hu : w.ownsRow base 25 3 u r.length (flat r)) (hr : r.length ≤ 4398046511104)
    (ho' : w2.ownsRow base 88 1 v' (out.length + 1) (xs ++ [u])) (hg : w.grownBy w2 v.ownBlock) : Owned base w2 v' (out ++ [r]) := by
  refine ⟨xs ++ [u], by simpa using ho', fun j hj => ?_⟩
  have hxl : xs.length = out.length := by have := ho.1; omega
  by_cases h : j < out.length
  · obtain ⟨u', h1, h2, h3⟩ := hi j h
    refine ⟨u', ?_, ?_, ?_⟩
    · rw [List.getElem?_append, if_pos (by omega)]; exact h1
    · rw [List.getElem_append_left h]; exact h2.kept hg (own_ne ho h2)
    · rw [List.getElem_append_left h]; exact h3
  · have hje : j = out.length := by simp at hj; omega
    subst hje
    refine ⟨u, ?_, ?_, ?_⟩
    · rw [List.getElem?_append, if_neg (by omega)]; simp [hxl]
    · simp only [List.getElem_append_right (Nat.le_refl _), Nat.sub_self, List.getElem_cons_zero]; exact hu.kept hg (own_ne ho hu)
    · simp only [List.getElem_append_right (Nat.le_refl _), Nat.sub_self, List.getElem_cons_zero]; exact hr
end Go.Proofs.Ytmjokpakekfkfaa

/- What the law file's rows leave. -/
set_option linter.unusedSimpArgs false
set_option linter.unusedVariables false
namespace Go.Proofs.Ytmjokpakekfkfaa
open Go.RowKit

theorem Owned.far {base b : Nat} {w w' : World} {v : Value} {out : List (List V)} (h : Owned base w v out) (hg : w.grownBy w' (some b)) (hb : b < base) : Owned base w' v out := by
  obtain ⟨xs, h1, h2⟩ := h
  exact ⟨xs, h1.kept hg (own_far h1 hb), fun j hj => let ⟨u, a, b, c⟩ := h2 j hj; ⟨u, a, b.kept hg (own_far b hb), c⟩⟩
theorem Owned.nil (base : Nat) (w : World) : Owned base w (.slice none 0 0) [] := ⟨[], World.ownsRow_nil _ _ _ _, fun j h => absurd h (Nat.not_lt_zero _)⟩
/-- The cells and the length of a list of rows. -/
theorem Owned.shape {base : Nat} {w : World} {v : Value} {out : List (List V)} (h : Owned base w v out) : ∃ a cap, v = .slice a out.length cap ∧ ∀ j (h : j < out.length), ∃ g u, a = some ⟨g, 0, none⟩ ∧ g < w.heap.size ∧ w.cell? ⟨g, j, none⟩ = some u ∧ w.ownsRow base 25 3 u out[j].length (flat out[j]) ∧ out[j].length ≤ 4398046511104 := by
  obtain ⟨xs, h1, h2⟩ := h
  have h0 := h1
  obtain ⟨hx, hv | ⟨g, cap, cur, hv, hg, hh, hcap, hm, hs, ht⟩⟩ := h1
  · obtain ⟨rfl, hn⟩ := hv
    exact ⟨none, 0, by rw [hn], fun j hj => by omega⟩
  · subst hv
    refine ⟨_, cap, rfl, fun j hj => ?_⟩
    obtain ⟨u, k1, k2, k3⟩ := h2 j hj
    exact ⟨g, u, rfl, (Array.getElem?_eq_some_iff.1 hh).1, (h0.cellAt j (by omega)).trans k1, k2, k3⟩

theorem ownsRow_slice {w : World} {base : Nat} {e : TypeId} {size : Nat} {v : Value} {n : Nat} {xs : List Value} (h : w.ownsRow base e size v n xs) : ∃ a cap, v = .slice a n cap := by
  obtain ⟨hx, hv | ⟨g, cap, cur, hv, hg, hh, hcap, hm, hs, ht⟩⟩ := h
  · obtain ⟨rfl, hn⟩ := hv; exact ⟨none, 0, by rw [hn]⟩
  · exact ⟨_, _, hv⟩
def GotRows (b : Nat) (c : CaseId) (w : World) (e : Ending) (w' : World) : Prop :=
  ∃ (v : Value) (rs : List (List V)), e = .returned v ∧ rs.length ≤ 6 ∧ (∀ r ∈ rs, r.length ≤ 2) ∧ Owned w.heap.size w' v rs ∧ CaseAt w' b c ∧ w.grownBy w' (some b)

end Go.Proofs.Ytmjokpakekfkfaa

/- Contracts of interval.inside and interval.compareFirst; slices of values that are cut. -/
set_option linter.unusedSimpArgs false
set_option linter.unusedVariables false
namespace Go.Proofs.Ytmjokpakekfkfaa
open Go.RowKit

/-- A slice of values that may be cut. -/
def CutV (w : World) (v : Value) (r : List V) : Prop :=
  ∃ (a : Option Addr) (cap : Nat), v = .slice a r.length cap ∧ r.length ≤ cap ∧ cap ≤ maxLen ∧ r.length ≤ 4398046511104 ∧ (r = [] ∨ ∃ b off, a = some ⟨b, off, none⟩ ∧ RowIn w b off r)
theorem CutV.later {w w' : World} {v : Value} {r : List V} (h : CutV w v r) (hw : Below w.heap.size w w') : CutV w' v r := by
  obtain ⟨a, cap, h1, h2, h3, h4, h5⟩ := h
  exact ⟨a, cap, h1, h2, h3, h4, h5.imp id fun ⟨b, off, k1, k2⟩ => ⟨b, off, k1, k2.later hw⟩⟩
theorem CutV.row {w : World} {v : Value} {r : List V} (h : CutV w v r) : RowAt w v r := by
  obtain ⟨a, cap, h1, h2, h3, h4, h5⟩ := h
  exact ⟨a, cap, h1, h4, h5⟩
theorem RowIn.cut {w : World} {b off : Nat} {r : List V} (h : RowIn w b off r) (k : Nat) : RowIn w b (off + k * 3) (r.drop k) :=
  ⟨h.blk, fun i hi => by
    have := h.at_ (k + i) (by simp at hi; omega)
    rw [List.getElem_drop]
    have e : off + (k + i) * 3 = off + k * 3 + i * 3 := by omega
    rw [e] at this
    exact this⟩
theorem RowIn.head {w : World} {b off : Nat} {r : List V} (h : RowIn w b off r) (k : Nat) : RowIn w b off (r.take k) :=
  ⟨h.blk, fun i hi => by
    have := h.at_ i (by simp at hi; omega)
    rw [List.getElem_take]; exact this⟩
/-- 's[k:]' -/
theorem CutV.from_ {w : World} {v : Value} {r : List V} (h : CutV w v r) (k : Nat) (hk : k ≤ r.length) :
    ∃ (a' : Option Addr) (c' : Nat), (∀ w' : World, (Instr.slice 35 v (some (.int .i64 (k : Int))) none none).run Try.prog w' = .ok (.slice a' (r.length - k) c') w') ∧ CutV w (.slice a' (r.length - k) c') (r.drop k) := by
  obtain ⟨pa, ca, rfl, hcap, hcm, hl, ha⟩ := h
  have hm' : ca ≤ 9223372036854775807 := hcm
  have hkc : ¬ ca < k := by omega
  by_cases he : k = ca
  · subst he
    have hd : r.drop k = [] := List.drop_eq_nil_of_le (by omega)
    refine ⟨pa, 0, fun w' => ?_, ⟨pa, 0, by rw [hd]; simp; omega, by rw [hd]; simp, by simp, by rw [hd]; simp, .inl hd⟩⟩
    have e1 : (r.length : Int) = (k : Int) := by omega
    have e2 : r.length = k := by omega
    cases pa <;> simp [Instr.slice, run_underlying Try.underlying35, Instr.sliceBounds, Instr.sliceBound, asIntOf, go_sem, e2]
  · rcases ha with rfl | ⟨b, off, rfl, hb⟩
    · obtain rfl : k = 0 := by simpa using hk
      refine ⟨pa, ca, fun w' => ?_, ⟨pa, ca, by simp, by simp, hcm, by simp, .inl (by simp)⟩⟩
      cases pa with
      | none => simp [Instr.slice, run_underlying Try.underlying35, Instr.sliceBounds, Instr.sliceBound, asIntOf, go_sem]
      | some a =>
        have e3 : ¬ 0 = ca := he
        have e4 : ¬ ca = 0 := fun e => he e.symm
        simp [Instr.slice, run_underlying Try.underlying35, Instr.sliceBounds, Instr.sliceBound, asIntOf, go_sem, e4, Addr.add]
    · refine ⟨some ⟨b, off + k * 3, none⟩, ca - k, fun w' => ?_, ⟨_, ca - k, by rw [List.length_drop], by rw [List.length_drop]; omega, by unfold maxLen at hcm ⊢; omega, by rw [List.length_drop]; omega, .inr ⟨b, off + k * 3, rfl, hb.cut k⟩⟩⟩
      have e2 : ¬ ca = k := fun e => he e.symm
      simp [Instr.slice, run_underlying Try.underlying35, Instr.sliceBounds, Instr.sliceBound, asIntOf, go_sem]
      rw [if_pos hk, if_neg e2]
/-- 's[:k]' -/
theorem CutV.to_ {w : World} {v : Value} {r : List V} (h : CutV w v r) (k : Nat) (hk : k ≤ r.length) :
    ∃ (a' : Option Addr) (c' : Nat), (∀ w' : World, (Instr.slice 35 v none (some (.int .i64 (k : Int))) none).run Try.prog w' = .ok (.slice a' k c') w') := by
  obtain ⟨pa, ca, rfl, hcap, hcm, hl, ha⟩ := h
  have hm' : ca ≤ 9223372036854775807 := hcm
  have hkc : k ≤ ca := by omega
  refine ⟨pa, ca, fun w' => ?_⟩
  cases pa <;> simp [Instr.slice, run_underlying Try.underlying35, Instr.sliceBounds, Instr.sliceBound, asIntOf, go_sem, hkc]
theorem inside_calls (a : Option Addr) (n cap : Nat) (hn : n ≤ 4398046511104) (w : World) : Calls Try.prog 73 #[.slice a n cap] w fun e w' => e = .returned (.bool (oddB n)) ∧ w = w' := by
  have hr : (n : Int).tmod 2 = ((n % 2 : Nat) : Int) := by rw [Int.tmod_eq_emod_of_nonneg (by omega)]; rfl
  by_cases h : n % 2 = 1
  · have HO : Hid (oddB n = true) := by show _ = _; unfold oddB; simp [h]
    have h1 : (n : Int) % 2 = 1 := by omega
    clear hr
    go_enter Try.func73, Try.ntmps73
    go_wp2
    go_ret
    exact ⟨ret_b (by simp [HO.out, h1]), rfl⟩
  · have HO : Hid (oddB n = false) := by show _ = _; unfold oddB; simp [h]
    have h1 : (n : Int) % 2 = 0 := by omega
    clear hr
    go_enter Try.func73, Try.ntmps73
    go_wp2
    go_ret
    exact ⟨ret_b (by simp [HO.out, h1]), rfl⟩
/-- The order of the heads; the end of a list stands behind every edge. -/
def cmpF : List V → List V → Int
  | [], _ => 1
  | _ :: _, [] => -1
  | x :: _, y :: _ => cmpV x y
set_option maxHeartbeats 1000000 in
theorem compareFirst_calls (va vb : Value) (A B : List V) (w : World) (ha : RowAt w va A) (hb : RowAt w vb B) : Calls Try.prog 80 #[va, vb] w fun e w' => e = .returned (.int .i64 (cmpF A B)) ∧ Gro w w' := by
  have mx := mixed
  obtain ⟨pa, ca, rfl, la, ha⟩ := ha
  obtain ⟨pb, cb, rfl, lb, hb⟩ := hb
  rcases A with _ | ⟨x, A⟩
  · clear ha hb
    have e : cmpF [] B = 1 := by cases B <;> rfl
    rw [e]
    generalize B.length = n
    clear e
    go_enter Try.func80, Try.ntmps80
    go_wp2
    go_ret
    exact ⟨rfl, Gro.refl _⟩
  obtain ⟨ba, oa, rfl, hra⟩ := ha.resolve_left (by simp)
  have h0 := hra.at_ 0 (by simp)
  have hla := hra.blk
  simp only [List.length_cons] at la ⊢
  rcases B with _ | ⟨y, B⟩
  · clear hb hra h0
    have e : cmpF (x :: A) [] = -1 := rfl
    rw [e]
    generalize A.length = n at la ⊢
    have e1 : ((n : Int) + 1 == 0) = false := by simp; omega
    clear e
    go_enter Try.func80, Try.ntmps80
    go_wp2
    go_ret
    exact ⟨rfl, Gro.refl _⟩
  obtain ⟨bb, ob, rfl, hrb⟩ := hb.resolve_left (by simp)
  have h1 := hrb.at_ 0 (by simp)
  have hlb := hrb.blk
  simp only [List.length_cons] at lb ⊢
  obtain ⟨a0, a1, a2⟩ := h0
  obtain ⟨b0, b1, b2⟩ := h1
  simp only [Nat.zero_mul, Nat.add_zero, List.getElem_cons_zero] at a0 a1 a2 b0 b1 b2
  have e : cmpF (x :: A) (y :: B) = cmpV x y := rfl
  rw [e]
  have HC := Lib.hid (fun w' => compare_calls x y w')
  generalize cmpV x y = d at HC ⊢
  generalize A.length = n at la ⊢
  generalize B.length = m at lb ⊢
  have e1 : ((n : Int) + 1 == 0) = false := by simp; omega
  have e2 : ((m : Int) + 1 == 0) = false := by simp; omega
  have i1 : (0 : Int) < (n : Int) + 1 := by omega
  have i2 : (0 : Int) < (m : Int) + 1 := by omega
  obtain ⟨xk, xn, xt⟩ := x
  obtain ⟨yk, yn, yt⟩ := y
  simp only at a0 a1 a2 b0 b1 b2
  clear hra hrb e hb ha
  go_enter Try.func80, Try.ntmps80
  go_wp2_with fail
  go_quiet_grown (first | (go_at_call 43; refine gro_calls (HC.out _)))
  go_wp2
  go_ret
  exact ⟨rfl, (Gro.refl _).grown _ _⟩
end Go.Proofs.Ytmjokpakekfkfaa

/- Contracts of the reference's Same and Copy, and of the law file's copies. -/
set_option linter.unusedSimpArgs false
set_option linter.unusedVariables false
namespace Go.Proofs.Ytmjokpakekfkfaa
open Go.RowKit

theorem step_int (k : Nat) (h : k ≤ 4398046511104) : wrap64 ((k : Int) + 1) = (k : Int) + 1 := by
  unfold wrap64
  omega
theorem run_append_nil {w : World} (t ty e : TypeId) (i : TypeInfo) (a : Option Addr) (c : Nat) (ht : Try.prog.underlying t = some (.slice e)) (hi : Try.prog.info? e = some i) :
    (Builtin.append_ #[t, t] ty #[.slice none 0 0, .slice a 0 c]).run Try.prog w = .ok (.slice none 0 0) w := by
  cases a <;> simp [Builtin.append_, run_underlying ht, sizeOf, typeInfo, hi, Builtin.lenOf, Builtin.firstCells, loadCells, loadCellsFrom]
theorem wpList_append_nil {w : World} {ops : Array Oper} {rest : List Oper} {o : Oper} {a : Act} {Q : Exit → Act → World → Prop} (hgd : o.guard = none) (s x : Operand) (t : TypeId)
    (ho : o.op = .call { callee := .builtin .append, args := #[s, x], argTypes := #[t, t] })
    (e : TypeId) (i : TypeInfo) (ht : Try.prog.underlying t = some (.slice e)) (hi : Try.prog.info? e = some i)
    (ad : Option Addr) (c : Nat) (hs : a.eval s = .slice none 0 0) (hx : a.eval x = .slice ad 0 c)
    (h : wpList Try.prog ops Q rest (a.put o.dst (.slice none 0 0)) w) : wpList Try.prog ops Q (o :: rest) a w := by
  refine wpList_plain hgd fun K hK => ?_
  have hrun := run_append_nil (w := w) t o.type e i ad c ht hi
  unfold Oper.wp
  simp [execOp, ho, resolve, invoke, builtin, hs, hx, hrun, Result.andThen]
  exact hK _ _ h

/-- A copy of a row. -/
theorem copy_calls (va : Value) (r : List V) (w : World) (ha : RowAt w va r) :
    Calls Try.prog 83 #[va] w fun e w' => ∃ v, e = .returned v ∧ w'.ownsRow w.heap.size 25 3 v r.length (flat r) ∧ Below w.heap.size w w' := by
  obtain ⟨i, hi, hz, hsz, hby⟩ := info_parts info24
  obtain ⟨pa, ca, rfl, la, ha⟩ := ha
  by_cases h0 : r = []
  · subst h0
    go_enter Try.func83, Try.ntmps83
    go_wp2_with (at_builtin; go_must (refine wpList_append_nil rfl _ _ 88 rfl 25 i Try.underlying88 hi pa ca rfl rfl ?_))
    go_wp2
    go_ret
    exact ⟨_, rfl, World.ownsRow_nil _ _ _ _, Below.refl _ _⟩
  · obtain ⟨b, off, rfl, hb⟩ := ha.resolve_left h0
    have hl := flat_length r
    have h1 := flat_one r
    have hc := flat_cells r off hb.at_
    have hn := World.ownsRow_nil w w.heap.size 25 3
    have HI := Lib.hid hi
    have HZ := Lib.hid hz
    have HSZ := Lib.hid hsz
    have HBY := Lib.hid hby
    have HL := Lib.hid hl
    have H1 := Lib.hid h1
    have HC := Lib.hid hc
    have HN := Lib.hid hn
    clear hi hz hsz hby hl h1 hc hn hb ha h0
    go_enter Try.func83, Try.ntmps83
    go_wp2_with (at_builtin; go_must (refine wpList_append_own _ rfl _ _ 88 rfl w.heap.size 25 i (V.val ⟨0, 0, ⟨#[]⟩⟩) 3 32 Try.underlying88 HI.out HZ.out HSZ.out HBY.out rfl (by decide) _ 0 [] rfl HN.out ⟨b, off, none⟩ r.length ca (flat r) rfl HL.out ?c1 H1.out ?c3 ?c4 ?c5 ?_))
    case c1 => intro j u hj; have := HC.out j u hj; unfold Addr.add; split <;> simp_all
    case c3 => unfold maxLen; omega
    case c4 => omega
    case c5 => omega
    intro v' w7 hown' hgrow hnil
    have HOW' := Lib.hid hown'
    have HG7 := Lib.hid hgrow
    clear hown' hgrow hnil
    go_wp2
    go_ret
    exact ⟨_, rfl, by have := HOW'.out; simpa using this, (Below.refl _ _).grown HG7.out (Nat.le_refl _) (fun k hk => by simp [Value.ownBlock] at hk)⟩

theorem step_pred (x : Int) (h0 : 0 ≤ x) (h : x ≤ 4398046511104) : wrap64 (x - 1) = x - 1 := by
  unfold wrap64
  omega
end Go.Proofs.Ytmjokpakekfkfaa

/- Contracts of slices.Equal at values, of value.Has and of the reference's Has. -/
set_option linter.unusedSimpArgs false
set_option linter.unusedVariables false
namespace Go.Proofs.Ytmjokpakekfkfaa
open Go.RowKit

/-- '!=' of two values. -/
theorem neq_V (k n k' n' : Int) (t t' : ByteArray) (w : World) :
    (binOp .neq 25 (.agg #[.int .i64 k, .int .i64 n, .string t]) (.agg #[.int .i64 k', .int .i64 n', .string t'])).run Try.prog w = .ok (.bool (!decide ((⟨k, n, t⟩ : V) = ⟨k', n', t'⟩))) w := by
  have hS : Try.prog.underlying 25 = some (.struct (Try.prog.fieldsOf 25)) := by kernel_rfl
  have hp : Try.prog.stoodInHeld 25 = false := by kernel_rfl
  have u3 := Try.underlying3
  have a3 := Try.isAgg3
  have z3 := Try.sizeOf3
  have u2 := Try.underlying2
  have a2 := Try.isAgg2
  have z2 := Try.sizeOf2
  have u9 := Try.underlying9
  have a9 := Try.isAgg9
  have z9 := Try.sizeOf9
  rw [run_neq_struct, show (10000 : Nat) = 9999 + 1 from rfl, run_equalIn_agg w 9999 25 _ _ hS hp]
  simp only [Program.fieldsOf, Try.underlying25]
  go_simp
  by_cases h1 : k = k' <;> by_cases h2 : n = n' <;> by_cases h3 : t = t' <;> simp [h1, h2, h3]
  exact fun h => h3 (toList_inj h)

theorem take_eq {a b : List V} {k : Nat} (h : a.take k = b.take k) (ha : k < a.length) (hb : k < b.length) (he : a[k] = b[k]) : a.take (k + 1) = b.take (k + 1) := by
  rw [List.take_add_one, List.take_add_one, h, List.getElem?_eq_getElem ha, List.getElem?_eq_getElem hb, he]
theorem has_step {rs : List (List V)} {r : List V} {k : Nat} (h : r ∉ rs.take k) (hk : k < rs.length) (hne : ¬ rs[k] = r) : r ∉ rs.take (k + 1) := by
  rw [List.take_add_one, List.getElem?_eq_getElem hk]
  simp only [Option.toList_some, List.mem_append, List.mem_singleton]
  rintro (h' | h')
  · exact h h'
  · exact hne h'.symm
end Go.Proofs.Ytmjokpakekfkfaa
