/- The contracts of the smallest functions of package value and of cmp: what each returns, whatever it is called with. -/
import Derived.Test.YtpmlhgakbpfgmaaDoorM
import Derived.WalkKit
import Derived.ProofKit
import Derived.OpenShut
import Derived.WalkLawsBesides
import Derived.WalkSpells
import Derived.Lib.Hide
import Derived.Outline
import Derived.Laws.StructEq
import Derived.Deep.QuietTactic
import Derived.BigQuiet
import Derived.Shelf.SlSortCmp.QuietGrown
import Derived.StillTailTactics
set_option linter.unusedSimpArgs false
set_option linter.unusedVariables false
namespace Go.Proofs.YtpmlhgakbpfgmaaDoor
open Go.RowKit

theorem ret_i {a b : Int} (h : a = b) : Ending.returned (.int .i64 a) = .returned (.int .i64 b) := by rw [h]

theorem less_T {a b : ByteArray} (h : cmpS a b < 0) : Op.bytesLess a.toList b.toList = true := by rw [less_S]; simpa using h
theorem less_F {a b : ByteArray} (h : ¬ cmpS a b < 0) : Op.bytesLess a.toList b.toList = false := by rw [less_S]; simpa using h
theorem eq_T {a b : ByteArray} (h : cmpS a b = 0) : (a.toList == b.toList) = true := by rw [eq_S]; simpa using h
theorem eq_F {a b : ByteArray} (h : ¬ cmpS a b = 0) : (a.toList == b.toList) = false := by rw [eq_S]; simpa using h

/-! A struct result lies in a new block. -/
theorem boolean_calls (n : Int) (w : World) : Calls Tryd.prog 54 #[.int .i64 n] w fun e w' => e = .returned (V.val ⟨3, n, ByteArray.empty⟩) ∧ Gro w w' := by
  go_enter Tryd.func54, Tryd.ntmps54
  go_wp2
  exact bodyPost_ret (v := V.val ⟨3, n, ByteArray.empty⟩) (by simp [results, Tryd.results54, go_sem, V.val]; try rfl) rfl ⟨rfl, by repeat (first | exact Gro.refl _ | apply Gro.alloc | apply Gro.drew)⟩
theorem integer_calls (n : Int) (w : World) : Calls Tryd.prog 55 #[.int .i64 n] w fun e w' => e = .returned (V.val ⟨4, n, ByteArray.empty⟩) ∧ Gro w w' := by
  go_enter Tryd.func55, Tryd.ntmps55
  go_wp2
  exact bodyPost_ret (v := V.val ⟨4, n, ByteArray.empty⟩) (by simp [results, Tryd.results55, go_sem, V.val]; try rfl) rfl ⟨rfl, by repeat (first | exact Gro.refl _ | apply Gro.alloc | apply Gro.drew)⟩
theorem text_calls (s : ByteArray) (w : World) : Calls Tryd.prog 56 #[.string s] w fun e w' => e = .returned (V.val ⟨5, 0, s⟩) ∧ Gro w w' := by
  go_enter Tryd.func56, Tryd.ntmps56
  go_wp2
  exact bodyPost_ret (v := V.val ⟨5, 0, s⟩) (by simp [results, Tryd.results56, go_sem, V.val]; try rfl) rfl ⟨rfl, by repeat (first | exact Gro.refl _ | apply Gro.alloc | apply Gro.drew)⟩
end Go.Proofs.YtpmlhgakbpfgmaaDoor
/- Laws for the walk on worlds that a callee has let grow: a cell of an old block is read and written as before. -/
set_option linter.unusedSimpArgs false
set_option linter.unusedVariables false
namespace Go.Proofs.YtpmlhgakbpfgmaaDoor
open Go.RowKit

@[go_sem] theorem size_gro (w : World) (q : Nat) (os : Array Obj) : (Sort.grow (w.drewN q) os).heap.size = w.heap.size + os.size := by simp [World.drewN]
@[go_sem] theorem cell_gro (w : World) (q : Nat) (os : Array Obj) (n i : Nat) (h : n < w.heap.size) : (Sort.grow (w.drewN q) os).cell? ⟨n, i, none⟩ = w.cell? ⟨n, i, none⟩ := by
  rw [Sort.cell?_grow _ _ _ (by simpa [World.drewN] using h)]; rfl
@[go_sem] theorem frozen_gro (w : World) (q : Nat) (os : Array Obj) (n i : Nat) (h : n < w.heap.size) : (Sort.grow (w.drewN q) os).frozen? ⟨n, i, none⟩ = w.frozen? ⟨n, i, none⟩ := by
  rw [Sort.frozen?_grow _ _ _ (by simpa [World.drewN] using h)]; rfl
@[go_sem] theorem setCell_gro (w : World) (q : Nat) (os : Array Obj) (n i : Nat) (v : Value) (h : n < w.heap.size) : (Sort.grow (w.drewN q) os).setCell ⟨n, i, none⟩ v = Sort.grow ((w.setCell ⟨n, i, none⟩ v).drewN q) os := by
  simp only [World.setCell, Sort.grow, World.drewN, Sort.modify_append_left _ _ _ _ h]
@[go_sem] theorem drew_gro (w : World) (q : Nat) (os : Array Obj) : (Sort.grow (w.drewN q) os).drew = Sort.grow (w.drewN (q + 1)) os := rfl
@[go_sem] theorem gro_gro (w : World) (q q' : Nat) (os os' : Array Obj) : Sort.grow ((Sort.grow (w.drewN q) os).drewN q') os' = Sort.grow (w.drewN (q + q')) (os ++ os') := by
  simp [Sort.grow, World.drewN, Nat.add_assoc]
@[go_sem] theorem shape_gro (w : World) (q : Nat) (os : Array Obj) (n : Nat) (h : n < w.heap.size) : (Sort.grow (w.drewN q) os).shape? n = w.shape? n := by
  unfold World.shape?
  rw [Sort.heap_grow_old _ _ (by simpa [World.drewN] using h)]; rfl

theorem Gro.grown {a w : World} (h : Gro a w) (n : Nat) (os : Array Obj) : Gro a (Sort.grow (w.drewN n) os) := by
  refine h.trans ⟨⟨rfl, rfl, rfl, by simp [World.drewN], fun k hk => ?_⟩, by simp [World.drewN, Sort.grow]⟩
  simp only [Sort.grow, World.drewN]
  rw [Array.getElem?_append, if_pos hk]
theorem gro_calls {f : FuncId} {args : Array Value} {w : World} {n : Nat} {os : Array Obj} {v : Value}
    (h : Calls Tryd.prog f args (Sort.grow (w.drewN n) os) fun e w' => e = .returned v ∧ Gro (Sort.grow (w.drewN n) os) w') :
    Calls Tryd.prog f args (Sort.grow (w.drewN n) os) fun e w'' => e = .returned v ∧ ∃ p : GrownBy, w'' = Sort.grow (w.drewN p.n) p.os :=
  Calls.grown_of (h.mono fun _ _ ⟨he, hg⟩ => ⟨he, hg.grow⟩)
/-- A contract in the form that the walk takes: the world written out. -/
theorem wide {f : FuncId} {args : Array Value} {w : World} {v : Value} (h : Calls Tryd.prog f args w fun e w' => e = .returned v ∧ Gro w w') :
    Calls Tryd.prog f args w fun e w' => ∃ q os, e = .returned v ∧ w' = Sort.grow (w.drewN q) os :=
  h.mono fun _ _ ⟨he, hg⟩ => let ⟨q, os, hw⟩ := hg.grow; ⟨q, os, he, hw⟩
theorem ret_b {a b : Bool} (h : a = b) : Ending.returned (.bool a) = .returned (.bool b) := by rw [h]
theorem ret_vb {a b : V} {p q : Bool} (h : a = b) (h' : p = q) : Ending.returned (.tuple #[a.val, .bool p]) = .returned (.tuple #[b.val, .bool q]) := by rw [h, h']
theorem data_empty : (⟨#[]⟩ : ByteArray) = ByteArray.empty := rfl
theorem mixed : Tryd.prog.follows .mixedOrders = true := by kernel_rfl
theorem still_tail_drew {id : Nat} {Q : Exit → Act → World → Prop} {a : Act} {w : World} {l : List Oper} (n : Nat) (hm : Tryd.prog.follows .mixedOrders = true) (hB : Region.lexTailB .any l.toArray n = true)
    (h : wpStill Tryd.prog l.toArray w.drew (fun a' => wpList Tryd.prog l.toArray Q (l.drop n) a' w.drew) (l.take n) a) : (Code.region id l.toArray true).wp Tryd.prog Q a w :=
  wp_region_still_tail n hm hB h
end Go.Proofs.YtpmlhgakbpfgmaaDoor
