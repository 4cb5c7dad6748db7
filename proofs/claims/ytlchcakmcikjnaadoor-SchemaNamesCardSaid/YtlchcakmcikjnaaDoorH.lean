/- Regions whose callees leave what was there as it was, whatever they draw; and how the arguments of the laws are opened. -/
import Derived.Test.YtlchcakmcikjnaaDoorN
import Derived.Test.YtlchcakmcikjnaaDoorA6
import Derived.ProofKit
import Derived.OpenShut
import Derived.ShutString
import Derived.ChangeOld
import Derived.Lib.SmallJoins
set_option linter.unusedSimpArgs false
set_option linter.unusedVariables false
namespace Go.Proofs.YtlchcakmcikjnaaDoor
open Go.ChangeShapes Go.WideShapes Go.ChangeAt Go.RowKit Go.Joins

/-- The world after some other number of draws. -/
def loose (w : World) (d : Nat) : World := { w with drawn := d }
theorem Below.loose {w w' : World} (h : Below w.heap.size w w') : ∃ d os, w' = Sort.grow (loose w d) os := by
  obtain ⟨h1, h2, h3, h4, h5⟩ := h
  refine ⟨w'.drawn, w'.heap.extract w.heap.size w'.heap.size, ?_⟩
  cases w'
  cases w
  simp only at h1 h2 h3 h4 h5
  subst h1 h2 h3
  simp only [Sort.grow, Go.Proofs.YtlchcakmcikjnaaDoor.loose, World.mk.injEq, true_and, and_true]
  apply Array.ext_getElem?
  intro k
  rw [Array.getElem?_append]
  split
  · exact h5 k ‹_›
  · rw [Array.getElem?_extract]
    rename_i hk
    split
    · congr 1; omega
    · rename_i hk2; rw [Array.getElem?_eq_none]; omega
@[go_sem] theorem size_loose (w : World) (d : Nat) (os : Array Obj) : (Sort.grow (loose w d) os).heap.size = w.heap.size + os.size := by simp [loose]
@[go_sem] theorem cell_loose (w : World) (d : Nat) (os : Array Obj) (n i : Nat) (h : n < w.heap.size) : (Sort.grow (loose w d) os).cell? ⟨n, i, none⟩ = w.cell? ⟨n, i, none⟩ := by
  rw [Sort.cell?_grow _ _ _ (by simpa [loose] using h)]; rfl
@[go_sem] theorem frozen_loose (w : World) (d : Nat) (os : Array Obj) (n i : Nat) (h : n < w.heap.size) : (Sort.grow (loose w d) os).frozen? ⟨n, i, none⟩ = w.frozen? ⟨n, i, none⟩ := by
  rw [Sort.frozen?_grow _ _ _ (by simpa [loose] using h)]; rfl
theorem below_loose (w : World) (d : Nat) (os : Array Obj) : Below w.heap.size w (Sort.grow (loose w d) os) :=
  ⟨rfl, rfl, rfl, by simp [loose], fun k hk => by simp only [Sort.grow, loose]; rw [Array.getElem?_append, if_pos hk]⟩
theorem wp_region_quiet_loose {id : Nat} {Q : Exit → Act → World → Prop} {a : Act} {w : World} {l : List Oper} (hm : Tryd.prog.follows .mixedOrders = true) (hB : Region.lexB .any l.toArray = true)
    (h : wpQuiet Tryd.prog l.toArray (fun w' => ∃ p : GrownBy, w' = Sort.grow (loose w p.n) p.os) (fun a' => ∀ w', (∃ p : GrownBy, w' = Sort.grow (loose w p.n) p.os) → Q .normal a' w') l a) : (Code.region id l.toArray true).wp Tryd.prog Q a w :=
  wp_region_quiet (C := fun w' => ∃ p : GrownBy, w' = Sort.grow (loose w p.n) p.os) hm hB ⟨⟨w.drawn + 1, #[]⟩, by rw [Sort.grow_empty]; rfl⟩ (by simpa using h)
theorem loose_calls {f : FuncId} {args : Array Value} {w : World} {n : Nat} {os : Array Obj} {v : Value}
    (h : Calls Tryd.prog f args (Sort.grow (loose w n) os) fun e w' => e = .returned v ∧ Below (Sort.grow (loose w n) os).heap.size (Sort.grow (loose w n) os) w') :
    Calls Tryd.prog f args (Sort.grow (loose w n) os) fun e w'' => e = .returned v ∧ ∃ p : GrownBy, w'' = Sort.grow (loose w p.n) p.os :=
  h.mono fun _ _ ⟨he, hb⟩ => by
    obtain ⟨d, os', hw⟩ := Below.loose hb
    refine ⟨he, ⟨d, os ++ os'⟩, ?_⟩
    rw [hw]
    simp [Sort.grow, loose]
/-- A contract that only grows serves, too. -/
theorem gro_loose {f : FuncId} {args : Array Value} {w : World} {n : Nat} {os : Array Obj} {v : Value}
    (h : Calls Tryd.prog f args (Sort.grow (loose w n) os) fun e w' => e = .returned v ∧ Gro (Sort.grow (loose w n) os) w') :
    Calls Tryd.prog f args (Sort.grow (loose w n) os) fun e w'' => e = .returned v ∧ ∃ p : GrownBy, w'' = Sort.grow (loose w p.n) p.os :=
  loose_calls (h.mono fun _ _ ⟨he, hg⟩ => ⟨he, hg.below⟩)

/-! ### arguments -/
/-- A variable's block that holds a value. -/
structure Box (w : World) (b : Nat) (v : V) : Prop where
  lt : b < w.heap.size
  at_ : At w b 0 v
theorem Box.later {w w' : World} {b : Nat} {v : V} (h : Box w b v) (hw : Below w.heap.size w w') : Box w' b v := ⟨Nat.lt_of_lt_of_le h.lt hw.size, h.at_.later h.lt hw⟩
theorem Box.kept {w w' : World} {b c : Nat} {v : V} (h : Box w b v) (hw : w.grownBy w' (some c)) (hne : b ≠ c) : Box w' b v :=
  ⟨Nat.lt_of_lt_of_le h.lt hw.size, ⟨hw.cell h.at_.k (by simp; exact hne), hw.cell h.at_.n (by simp; exact hne), hw.cell h.at_.t (by simp; exact hne)⟩⟩
theorem Box.new (w : World) (v : V) (T : TypeId) : Box (w.alloc (.cells #[.int .i64 v.k, .int .i64 v.n, .string v.t] T)) w.heap.size v :=
  ⟨by simp, ⟨by go_simp, by go_simp, by go_simp⟩⟩
theorem Box.alloc {w : World} {b : Nat} {v : V} (h : Box w b v) (o : Obj) : Box (w.alloc o) b v := h.later ((Below.refl _ _).alloc (Nat.le_refl _) o)
theorem Box.cells {w : World} {b : Nat} {k n : Int} {t : ByteArray} (h : Box w b ⟨k, n, t⟩) :
    b < w.heap.size ∧ w.cell? ⟨b, 0, none⟩ = some (.int .i64 k) ∧ w.cell? ⟨b, 1, none⟩ = some (.int .i64 n) ∧ w.cell? ⟨b, 2, none⟩ = some (.string t) :=
  ⟨h.lt, h.at_.k, h.at_.n, h.at_.t⟩

set_option maxRecDepth 100000 in
theorem own : ownKnob Tryd.prog.godebug = none := by kernel_rfl
set_option maxRecDepth 100000 in
theorem laidOut : laidOutB Tryd.prog = true := by kernel_rfl
set_option maxRecDepth 100000 in
theorem cells24 : Tryd.prog.cellsOf 56 = 3 := by kernel_rfl

section
variable {H : Type} {enc : TypeId × Value → H} {w : World} {base : Nat} {spare : Nat → Bool} {held : Bool}
set_option maxRecDepth 100000 in
/-- A value that came in. -/
theorem open_V {r : Reach} {b0 : Nat} {v : Value} {d : DataW H} {p : List MemPlace} (hv : Value.okWide Tryd.prog w r b0 56 v) (h : DataW.Trod enc Tryd.prog w base spare held 56 v d p) :
    ∃ x : V, v = x.val ∧ -9223372036854775808 ≤ x.n := by
  obtain ⟨c0, c1, c2, y0, y1, y2, m, rfl, rfl, rfl, hy0, hy1, hy2⟩ := open_agg3 Tryd.underlying56 (by kernel_rfl) cells24 hv h
  obtain ⟨a, e0, rfl, wa⟩ := DataW.trod_int Tryd.underlying3 hy0
  obtain ⟨b, e1, rfl, wb⟩ := DataW.trod_int Tryd.underlying2 hy1
  obtain ⟨s, e2, rfl, hsz⟩ := DataW.trod_string Tryd.underlying9 hy2
  simp at e0 e1 e2
  subst e0 e1 e2
  refine ⟨⟨a, b, s⟩, rfl, ?_⟩
  have := wb
  simp [Lit.wf, IntKind.min, IntKind.max, IntKind.bits, IntKind.signed] at this
  exact this.1
set_option maxRecDepth 100000 in
/-- A slice of bytes that came in. -/
theorem open_codes {r : Reach} {b0 : Nat} {v : Value} {d : DataW H} {p : List MemPlace} (hv : Value.okWide Tryd.prog w r b0 22 v) (h : DataW.Trod enc Tryd.prog w base (fun _ => true) held 22 v d p) :
    ∃ a len cap zs, v = .slice a len cap ∧ IsRow .u8 w a len cap zs := by
  obtain ⟨a0, len0, cap0, rfl⟩ := okWide_slice Tryd.underlying22 hv
  obtain ⟨fuel, hf⟩ := h
  rcases open_ints Tryd.underlying22 Tryd.underlying5 (by kernel_rfl) hf with ⟨hcs, _⟩ | ⟨x, l, c, zs, hcs, _, hl, hm, hz, _, hcell, hwz⟩
  · simp [Value.cells] at hcs
    obtain ⟨rfl, rfl, rfl⟩ := hcs
    exact ⟨_, _, _, [], rfl, .inl ⟨rfl, rfl, rfl, rfl⟩⟩
  · simp [Value.cells] at hcs
    obtain ⟨rfl, rfl, rfl⟩ := hcs
    exact ⟨_, _, _, zs, rfl, .inr ⟨_, rfl, hl, hm, by simpa using hz, hcell, hwz⟩⟩
end
end Go.Proofs.YtlchcakmcikjnaaDoor
