/- Contracts of the maker of inputs, partsynccase.Case, of which a law is told only that its values are valid. -/
import Derived.Test.YtpmlhgakbpfgmaaDoorR
import Derived.Test.YtpmlhgakbpfgmaaDoorA4
import Derived.IntWalk
import Derived.OwnWalk
import Derived.Laws.OwnMore
import Derived.ProofKit
import Derived.OpenShut
import Derived.ShutString
import Derived.ChangeOld
import Derived.Lib.SmallJoins
set_option linter.unusedSimpArgs false
set_option linter.unusedVariables false
namespace Go.Proofs.YtpmlhgakbpfgmaaDoor
open Go.RowKit

/-- A case: its numbers, and how far it has been read. -/
structure CaseOf (w : World) (b : Nat) (a : Option Addr) (len cap pos : Nat) : Prop where
  lt : b < w.heap.size
  c0 : w.cell? ⟨b, 0, none⟩ = some (.slice a len cap)
  c1 : w.cell? ⟨b, 1, none⟩ = some (.int .i64 pos)
  f1 : w.frozen? ⟨b, 1, none⟩ = false
  le : pos ≤ len
  few : len ≤ 1000
  num : len = 0 ∨ ∃ g off, a = some ⟨g, off, none⟩ ∧ g < w.heap.size ∧ g ≠ b ∧ ∀ i, i < len → ∃ x : Int, w.cell? ⟨g, off + i, none⟩ = some (.int .u8 x) ∧ 0 ≤ x ∧ x ≤ 255
structure CaseId where
  a : Option Addr
  len : Nat
  cap : Nat
def CaseAt (w : World) (b : Nat) (c : CaseId) : Prop := ∃ pos, CaseOf w b c.a c.len c.cap pos
theorem CaseOf.grown {w w' : World} {b : Nat} {a : Option Addr} {len cap pos : Nat} (h : CaseOf w b a len cap pos) (hg : w.grownBy w' none) : CaseOf w' b a len cap pos :=
  ⟨Nat.lt_of_lt_of_le h.lt hg.size, hg.cell h.c0 (by simp), hg.cell h.c1 (by simp), by
    rw [World.frozen?_of_block (w := w) (hg.block b h.lt (by simp))]; exact h.f1, h.le, h.few, h.num.imp id fun ⟨g, off, h1, h2, h3, h4⟩ => ⟨g, off, h1, Nat.lt_of_lt_of_le h2 hg.size, h3, fun i hi => let ⟨x, k1, k2⟩ := h4 i hi; ⟨x, hg.cell k1 (by simp), k2⟩⟩⟩

theorem gro_by {w w' : World} (h : Gro w w') (r : Option Nat) : w.grownBy w' r := ⟨h.below.os, h.below.tape, h.below.output, h.below.size, fun k hk _ => h.below.block k hk⟩
theorem by_some {w w' : World} (h : w.grownBy w' none) (r : Option Nat) : w.grownBy w' r := ⟨h.os, h.tape, h.output, h.size, fun k hk _ => h.block k hk (by simp)⟩
theorem by_trans {w w1 w2 : World} {r : Option Nat} (h : w.grownBy w1 r) (h' : w1.grownBy w2 r) : w.grownBy w2 r :=
  ⟨h'.os.trans h.os, h'.tape.trans h.tape, h'.output.trans h.output, Nat.le_trans h.size h'.size, fun k hk hr => (h'.block k (Nat.lt_of_lt_of_le hk h.size) hr).trans (h.block k hk hr)⟩
theorem by_store {w : World} {b o : Nat} {v : Value} : w.grownBy (w.setCell ⟨b, o, none⟩ v) (some b) :=
  ⟨rfl, rfl, rfl, by simp [World.setCell], fun k hk hr => Below.heap_setCell _ _ _ _ (fun e => hr (by rw [e]))⟩
/-- Reading on. -/
theorem CaseOf.next {w : World} {b : Nat} {a : Option Addr} {len cap pos : Nat} (h : CaseOf w b a len cap pos) (hp : pos < len) : CaseOf (w.setCell ⟨b, 1, none⟩ (.int .i64 ((pos : Int) + 1))) b a len cap (pos + 1) :=
  ⟨by have := h.lt; simpa [World.setCell] using this, by rw [World.cell?_setCell_other _ _ _ _ (by simp)]; exact h.c0, World.cell?_setCell_same _ _ _ h.c1, by
    have := h.f1
    simpa using this, by omega, h.few, h.num.imp id fun ⟨g, off, h1, h2, h3, h4⟩ => ⟨g, off, h1, by simpa [World.setCell] using h2, h3, fun i hi => let ⟨x, k1, k2⟩ := h4 i hi; ⟨x, by rw [World.cell?_setCell_other _ _ _ _ (by simp; first | done | exact h3 | (intro e; exact absurd e h3))]; exact k1, k2⟩⟩⟩

def IntPost (b : Nat) (c : CaseId) (n : Int) (w : World) (e : Ending) (w' : World) : Prop := ∃ x : Int, e = .returned (.int .i64 x) ∧ 0 ≤ x ∧ x < n ∧ CaseAt w' b c ∧ w.grownBy w' (some b)

set_option maxHeartbeats 1000000 in
theorem int_calls (b : Nat) (c : CaseId) (n : Int) (h1 : 1 ≤ n) (h2 : n ≤ 4398046511104) (w : World) (hc : CaseAt w b c) :
    Calls Tryd.prog 7 #[.pointer (some ⟨b, 0, none⟩), .int .i64 n] w (IntPost b c n w) := by
  have mx := mixed
  obtain ⟨a, len, cap⟩ := c
  obtain ⟨pos, hc⟩ := hc
  simp only at hc
  have k0 := hc.c0
  have k1 := hc.c1
  have kf := hc.f1
  have kl := hc.lt
  have kp := hc.le
  have kw := hc.few
  by_cases hp : len ≤ pos
  · have d1 : decide ((len : Int) ≤ (pos : Int)) = true := by simp; omega
    have d2 : decide (len ≤ pos) = true := by simpa using hp
    have H := Lib.hid hc
    clear hc
    go_enter Tryd.func7, Tryd.ntmps7
    go_wp2_with fail
    go_quiet_grown (fail)
    go_wp2
    go_ret
    have hg : Gro w (Sort.grow (w.drewN nq) osq) := (Gro.refl w).grown _ _
    exact ⟨0, rfl, by omega, by omega, ⟨pos, H.out.grown (gro_by hg none)⟩, gro_by hg _⟩
  · have hlt : pos < len := by omega
    obtain ⟨g, off, rfl, hg1, hg2, hg3⟩ := hc.num.resolve_left (by omega)
    obtain ⟨x, kx, hx0, hx1⟩ := hg3 pos hlt
    have d1 : decide ((len : Int) ≤ (pos : Int)) = false := by simp; omega
    have d2 : decide (len ≤ pos) = false := by simpa using hp
    have d3 : decide (n < 1) = false := by simp; omega
    have hn : ¬ n < 1 := by omega
    have H := Lib.hid hc
    clear hc hg3
    go_enter Tryd.func7, Tryd.ntmps7
    go_wp2_with fail
    go_quiet_grown (fail)
    go_wp2_with fail
    obtain ⟨W1, hW1⟩ : ∃ W1, W1 = Sort.grow ((w.setCell ⟨b, 1, none⟩ (.int .i64 ((pos : Int) + 1))).drewN nq) osq := ⟨_, rfl⟩
    rw [← hW1]
    have hC : CaseOf W1 b (some ⟨g, off, none⟩) len cap (pos + 1) := by rw [hW1]; exact (H.out.next hlt).grown (gro_by ((Gro.refl _).grown _ _) none)
    have hby : w.grownBy W1 (some b) := by rw [hW1]; exact by_trans by_store (gro_by ((Gro.refl _).grown _ _) _)
    have m0 := hC.c0
    have m1 := hC.c1
    have mb := hC.lt
    have mg := Nat.lt_of_lt_of_le hg1 hby.size
    have mk := hby.cell kx (by simp; exact hg2)
    have HC := Lib.hid hC
    have HB := Lib.hid hby
    have e1 : IntKind.i64.wrap (pos : Int) = (pos : Int) := IntWalk.i64_in _ (by omega)
    have hm0 : 0 ≤ x.tmod n := Int.tmod_nonneg n hx0
    have hm1 : x.tmod n < n := Int.tmod_lt_of_pos x (by omega)
    have e3 : IntKind.i64.wrap (x.tmod n) = x.tmod n := IntWalk.i64_in _ (by omega)
    have e4 : (n == 0) = false := by simp; omega
    have e6 : ¬ n = 0 := by omega
    have e5 : IntKind.i64.wrap x = x := IntWalk.i64_in _ (by omega)
    have HM := Lib.hid (And.intro hm0 hm1)
    clear hm0 hm1
    clear hW1 hC hby k0 k1 kf kl kx H d1 d2 hp
    go_quiet_grown (fail)
    go_wp2
    go_ret
    have hg : Gro W1 (Sort.grow (W1.drewN nq) osq) := (Gro.refl W1).grown _ _
    have hcs : CaseAt (Sort.grow (W1.drewN nq) osq) b ⟨some ⟨g, off, none⟩, len, cap⟩ := ⟨_, HC.out.grown (gro_by hg none)⟩
    have hbb : w.grownBy (Sort.grow (W1.drewN nq) osq) (some b) := by_trans HB.out (gro_by hg _)
    exact ⟨x.tmod n, ret_i (by first | rfl | (simp [IntWalk.rem_in x n hx0])), HM.out.1, HM.out.2, hcs, hbb⟩

/-! ### what is left of a case's other readers: each returns something fit -/
def isNum (x : Int) : Prop := -9223372036854775808 ≤ x ∧ x ≤ 9223372036854775807
def GotInt (b : Nat) (c : CaseId) (ok : Int → Prop) (w : World) (e : Ending) (w' : World) : Prop := ∃ x : Int, e = .returned (.int .i64 x) ∧ ok x ∧ CaseAt w' b c ∧ w.grownBy w' (some b)
def GotText (b : Nat) (c : CaseId) (w : World) (e : Ending) (w' : World) : Prop := ∃ s : ByteArray, e = .returned (.string s) ∧ s.size ≤ 64 ∧ CaseAt w' b c ∧ w.grownBy w' (some b)
def GotV (b : Nat) (c : CaseId) (w : World) (e : Ending) (w' : World) : Prop := ∃ v : V, e = .returned v.val ∧ validB v = true ∧ isNum v.n ∧ CaseAt w' b c ∧ w.grownBy w' (some b)

theorem number_calls (b : Nat) (c : CaseId) (w : World) (hc : CaseAt w b c) : Calls Tryd.prog 57 #[.pointer (some ⟨b, 0, none⟩)] w (GotInt b c isNum w) := by
  have hi := int_calls b c 12 (by omega) (by omega) w hc
  have HI := Lib.hid hi
  clear hi hc
  go_enter Tryd.func57, Tryd.ntmps57
  go_wp2_with fail
  refine HI.out.mono ?_
  rintro e w' ⟨x, rfl, hx0, hx1, hcs, hby⟩
  have HC := Lib.hid hcs
  have HB := Lib.hid hby
  clear hcs hby HI
  go_wp2
  all_goals
    go_ret
    exact ⟨_, rfl, by unfold isNum; constructor <;> omega, HC.out, HB.out⟩

theorem text_done {b : Nat} {c : CaseId} {w w' : World} {s : ByteArray} (h : s.size ≤ 64) (HC : CaseAt w' b c) (HB : w.grownBy w' (some b)) : GotText b c w (.returned (.string s)) w' := ⟨s, rfl, h, HC, HB⟩

set_option maxRecDepth 100000 in
theorem caseText_calls (b : Nat) (c : CaseId) (w : World) (hc : CaseAt w b c) : Calls Tryd.prog 58 #[.pointer (some ⟨b, 0, none⟩)] w (GotText b c w) := by
  have hi := int_calls b c 10 (by omega) (by omega) w hc
  have HI := Lib.hid hi
  clear hi hc
  go_enter Tryd.func58, Tryd.ntmps58
  go_wp2_with fail
  refine HI.out.mono ?_
  rintro e w' ⟨x, rfl, hx0, hx1, hcs, hby⟩
  have HC := Lib.hid hcs
  have HB := Lib.hid hby
  clear hcs hby HI
  by_cases h8 : x = 8
  · subst h8
    go_wp2
    go_loop [3, 4] (fun v i => ∃ (k : Nat) (s : ByteArray), k ≤ 64 ∧ i = .int .i64 k ∧ v = .string s ∧ s.size = k) (fun _ i => 64 - (intOf i).toNat)
    case atStart => exact ⟨0, ⟨#[]⟩, by omega, rfl, rfl, rfl⟩
    case round =>
      obtain ⟨k, s, hk, rfl, rfl, hs⟩ := hrel
      by_cases hlt : k < 64
      · have hsz : s.size ≤ 64 := by omega
        have HS := Lib.hid hs
        clear hs
        have hlt' : decide ((k : Int) < 64) = true := by simp; omega
        go_wp2
        exact ⟨⟨k + 1, _, by omega, by go_num, rfl, by rw [ByteArray.size_append, HS.out]; rfl⟩, by simp [intOf]; omega⟩
      · have hlt' : decide ((k : Int) < 64) = false := by simp; omega
        have H64 : Hid (s.size ≤ 64) := by show _ ≤ _; omega
        clear hs
        go_wp2
        go_ret
        exact text_done H64.out HC.out HB.out
  by_cases h9 : x = 9
  · subst h9
    clear h8
    go_wp2
    go_loop [3, 5] (fun v i => ∃ (k : Nat) (s : ByteArray), k ≤ 64 ∧ i = .int .i64 k ∧ v = .string s ∧ s.size = k) (fun _ i => 64 - (intOf i).toNat)
    case atStart => exact ⟨0, ⟨#[]⟩, by omega, rfl, rfl, rfl⟩
    case round =>
      obtain ⟨k, s, hk, rfl, rfl, hs⟩ := hrel
      by_cases hlt : k < 64
      · have hsz : s.size ≤ 64 := by omega
        have HS := Lib.hid hs
        clear hs
        have hlt' : decide ((k : Int) < 64) = true := by simp; omega
        go_wp2
        exact ⟨⟨k + 1, _, by omega, by go_num, rfl, by rw [ByteArray.size_append, HS.out]; rfl⟩, by simp [intOf]; omega⟩
      · have hlt' : decide ((k : Int) < 64) = false := by simp; omega
        have H64 : Hid (s.size ≤ 64) := by show _ ≤ _; omega
        clear hs
        go_wp2
        go_ret
        exact text_done H64.out HC.out HB.out
  obtain rfl | rfl | rfl | rfl | rfl | rfl | rfl | rfl : x = 0 ∨ x = 1 ∨ x = 2 ∨ x = 3 ∨ x = 4 ∨ x = 5 ∨ x = 6 ∨ x = 7 := by omega
  all_goals
    clear h8 h9
    go_wp2
    go_ret
    exact text_done (by decide) HC.out HB.out


theorem CaseAt.grown {w w' : World} {b : Nat} {c : CaseId} (h : CaseAt w b c) (hg : w.grownBy w' none) : CaseAt w' b c := let ⟨pos, h'⟩ := h; ⟨pos, h'.grown hg⟩
theorem CaseAt.lt {w : World} {b : Nat} {c : CaseId} (h : CaseAt w b c) : b < w.heap.size := let ⟨pos, h'⟩ := h; h'.lt
/-- A store elsewhere. -/
theorem CaseAt.stored {w0 w : World} {b : Nat} {c : CaseId} (h0 : CaseAt w0 b c) (h : CaseAt w b c) {n o : Nat} (hn : w0.heap.size ≤ n) (v : Value) : CaseAt (w.setCell ⟨n, o, none⟩ v) b c := by
  obtain ⟨pos, h⟩ := h
  obtain ⟨pos0, h0⟩ := h0
  have hb := h0.lt
  refine ⟨pos, by have := h.lt; simpa [World.setCell] using this, by rw [World.cell?_setCell_other _ _ _ _ (by simp <;> omega)]; exact h.c0, by rw [World.cell?_setCell_other _ _ _ _ (by simp <;> omega)]; exact h.c1, by have := h.f1; simpa using this, h.le, h.few, ?_⟩
  rcases h0.num with h0n | ⟨g0, off0, e0, h00, _⟩
  · exact .inl h0n
  · rcases h.num with hn' | ⟨g, off, e, h1, h2, h3⟩
    · exact .inl hn'
    · rw [e0] at e
      simp only [Option.some.injEq, Addr.mk.injEq] at e
      obtain ⟨rfl, rfl, -⟩ := e
      exact .inr ⟨g0, off0, e0, by simpa [World.setCell] using h1, h2, fun i hi => let ⟨x, k1, k2⟩ := h3 i hi; ⟨x, by rw [World.cell?_setCell_other _ _ _ _ (by simp <;> omega)]; exact k1, k2⟩⟩
theorem by_store_new {w w' : World} {r : Option Nat} (h : w.grownBy w' r) {n o : Nat} (hn : w.heap.size ≤ n) (v : Value) : w.grownBy (w'.setCell ⟨n, o, none⟩ v) r :=
  ⟨h.os, h.tape, h.output, by have := h.size; simpa [World.setCell] using this, fun k hk hr => (Below.heap_setCell _ _ _ _ (by show k ≠ n; omega)).trans (h.block k hk hr)⟩
theorem by_alloc {w w' : World} {o : Obj} {r : Option Nat} (h : (w.alloc o).grownBy w' r) : w.grownBy w' r := by_trans (World.grownBy_alloc w o r) h
/-- A block of the call's own, behind a reading of the case. -/
theorem box_kept {w w' : World} {b : Nat} {x y z : Value} {T : TypeId} (h : (w.alloc (.cells #[x, y, z] T)).grownBy w' (some b)) (hb : b < w.heap.size) :
    w.heap.size < w'.heap.size ∧ w'.cell? ⟨w.heap.size, 0, none⟩ = some x ∧ w'.cell? ⟨w.heap.size, 1, none⟩ = some y ∧ w'.cell? ⟨w.heap.size, 2, none⟩ = some z ∧
      w'.frozen? ⟨w.heap.size, 0, none⟩ = false ∧ w'.frozen? ⟨w.heap.size, 1, none⟩ = false ∧ w'.frozen? ⟨w.heap.size, 2, none⟩ = false := by
  have hs := h.size
  have hne : some w.heap.size ≠ some b := by simp; omega
  have hf : ∀ o, w'.frozen? ⟨w.heap.size, o, none⟩ = false := fun o => by
    rw [World.frozen?_of_block (w := w.alloc (.cells #[x, y, z] T)) (h.block w.heap.size (by simp) hne)]
    go_simp
  exact ⟨by simp at hs; omega, h.cell (by go_simp) hne, h.cell (by go_simp) hne, h.cell (by go_simp) hne, hf 0, hf 1, hf 2⟩

theorem caseValue_calls (b : Nat) (c : CaseId) (k : Int) (h3 : 3 ≤ k) (h5 : k ≤ 5) (w : World) (hc : CaseAt w b c) : Calls Tryd.prog 43 #[.pointer (some ⟨b, 0, none⟩), .int .i64 k] w (GotV b c w) := by
  have hc' : CaseAt (w.alloc (.cells #[.int .i64 0, .int .i64 0, .string ⟨#[]⟩] 56)) b c := hc.grown (World.grownBy_alloc w _ none)
  have hlt := hc.lt
  have HC0 := Lib.hid hc
  obtain rfl | rfl | rfl : k = 3 ∨ k = 4 ∨ k = 5 := by omega
  · have hi := int_calls b c 2 (by omega) (by omega) _ hc'
    have HI := Lib.hid hi
    clear hi hc hc'
    go_enter Tryd.func43, Tryd.ntmps43
    go_wp2_with fail
    refine HI.out.mono ?_
    rintro e w' ⟨x, rfl, hx0, hx1, hcs, hby⟩
    obtain ⟨q1, r0, r1, r2, f0, f1, f2⟩ := box_kept hby hlt
    have HC := Lib.hid hcs
    have HB := Lib.hid (by_alloc hby)
    clear hcs hby HI
    go_wp2
    exact bodyPost_ret (v := V.val ⟨3, x, ⟨#[]⟩⟩) (by simp [results, Tryd.results43, go_sem, V.val, r0, r1, r2, q1]; try rfl) rfl
      ⟨⟨3, x, ⟨#[]⟩⟩, rfl, by simp [validB, validP, data_empty]; omega, by unfold isNum; simp only; omega, HC0.out.stored (HC0.out.stored (HC0.out.stored HC.out (Nat.le_refl _) _) (Nat.le_refl _) _) (Nat.le_refl _) _, by_store_new (by_store_new (by_store_new HB.out (Nat.le_refl _) _) (Nat.le_refl _) _) (Nat.le_refl _) _⟩
  · have hi := number_calls b c _ hc'
    have HI := Lib.hid hi
    clear hi hc hc'
    go_enter Tryd.func43, Tryd.ntmps43
    go_wp2_with fail
    refine HI.out.mono ?_
    rintro e w' ⟨x, rfl, hx, hcs, hby⟩
    obtain ⟨q1, r0, r1, r2, f0, f1, f2⟩ := box_kept hby hlt
    have HC := Lib.hid hcs
    have HB := Lib.hid (by_alloc hby)
    have HX := Lib.hid hx
    clear hcs hby HI hx
    go_wp2
    exact bodyPost_ret (v := V.val ⟨4, x, ⟨#[]⟩⟩) (by simp [results, Tryd.results43, go_sem, V.val, r0, r1, r2, q1]; try rfl) rfl
      ⟨⟨4, x, ⟨#[]⟩⟩, rfl, by simp [validB, validP, data_empty], HX.out, HC0.out.stored (HC0.out.stored (HC0.out.stored HC.out (Nat.le_refl _) _) (Nat.le_refl _) _) (Nat.le_refl _) _, by_store_new (by_store_new (by_store_new HB.out (Nat.le_refl _) _) (Nat.le_refl _) _) (Nat.le_refl _) _⟩
  · have hi := caseText_calls b c _ hc'
    have HI := Lib.hid hi
    clear hi hc hc'
    go_enter Tryd.func43, Tryd.ntmps43
    go_wp2_with fail
    refine HI.out.mono ?_
    rintro e w' ⟨x, rfl, hx, hcs, hby⟩
    obtain ⟨q1, r0, r1, r2, f0, f1, f2⟩ := box_kept hby hlt
    have HC := Lib.hid hcs
    have HB := Lib.hid (by_alloc hby)
    have HX := Lib.hid hx
    clear hcs hby HI hx
    go_wp2
    exact bodyPost_ret (v := V.val ⟨5, 0, x⟩) (by simp [results, Tryd.results43, go_sem, V.val, r0, r1, r2, q1]; try rfl) rfl
      ⟨⟨5, 0, x⟩, rfl, by simp [validB, validP, HX.out], by unfold isNum; simp, HC0.out.stored (HC0.out.stored (HC0.out.stored HC.out (Nat.le_refl _) _) (Nat.le_refl _) _) (Nat.le_refl _) _, by_store_new (by_store_new (by_store_new HB.out (Nat.le_refl _) _) (Nat.le_refl _) _) (Nat.le_refl _) _⟩

theorem any_calls (b : Nat) (c : CaseId) (w : World) (hc : CaseAt w b c) : Calls Tryd.prog 34 #[.pointer (some ⟨b, 0, none⟩)] w (GotV b c w) := by
  have hc' : CaseAt (w.alloc (.cells #[.int .i64 0, .int .i64 0, .string ⟨#[]⟩] 56)) b c := hc.grown (World.grownBy_alloc w _ none)
  have hlt := hc.lt
  have HC0 := Lib.hid hc
  have hi := int_calls b c 5 (by omega) (by omega) _ hc'
  have HI := Lib.hid hi
  clear hi hc hc'
  go_enter Tryd.func34, Tryd.ntmps34
  go_wp2_with fail
  refine HI.out.mono ?_
  rintro e w1 ⟨x, rfl, hx0, hx1, hcs, hby⟩
  obtain ⟨q1, r0, r1, r2, f0, f1, f2⟩ := box_kept hby hlt
  by_cases h2 : x < 2
  · have HC := Lib.hid hcs
    have HB := Lib.hid (by_alloc hby)
    have h3 : 1 + x < 3 := by omega
    clear hcs hby HI
    go_wp2
    exact bodyPost_ret (v := V.val ⟨1 + x, 0, ⟨#[]⟩⟩) (by simp [results, Tryd.results34, go_sem, V.val, r0, r1, r2, q1]; try rfl) rfl
      ⟨⟨1 + x, 0, ⟨#[]⟩⟩, rfl, by simp [validB, validP, data_empty]; omega, by unfold isNum; simp, HC0.out.stored (HC0.out.stored (HC0.out.stored HC.out (Nat.le_refl _) _) (Nat.le_refl _) _) (Nat.le_refl _) _, by_store_new (by_store_new (by_store_new HB.out (Nat.le_refl _) _) (Nat.le_refl _) _) (Nat.le_refl _) _⟩
  · have h3 : ¬ 1 + x < 3 := by omega
    have hv := caseValue_calls b c (1 + x) (by omega) (by omega) w1 hcs
    have HV := Lib.hid hv
    have HBY := Lib.hid hby
    clear hv hby HI q1 r0 r1 r2 f0 f1 f2 hcs
    go_wp2_with fail
    refine HV.out.mono ?_
    rintro e w2 ⟨⟨vk, vn, vt⟩, rfl, hval, hnum, hcs2, hby2⟩
    obtain ⟨q1, r0, r1, r2, f0, f1, f2⟩ := box_kept (by_trans HBY.out hby2) hlt
    have HC := Lib.hid hcs2
    have HB := Lib.hid (by_alloc (by_trans HBY.out hby2))
    have HVA := Lib.hid hval
    have HNU := Lib.hid hnum
    clear hcs2 hby2 hval hnum
    go_wp2
    exact bodyPost_ret (v := V.val ⟨vk, vn, vt⟩) (by simp [results, Tryd.results34, go_sem, V.val, r0, r1, r2, q1]; try rfl) rfl
      ⟨⟨vk, vn, vt⟩, rfl, HVA.out, HNU.out, HC0.out.stored (HC0.out.stored (HC0.out.stored HC.out (Nat.le_refl _) _) (Nat.le_refl _) _) (Nat.le_refl _) _, by_store_new (by_store_new (by_store_new HB.out (Nat.le_refl _) _) (Nat.le_refl _) _) (Nat.le_refl _) _⟩
end Go.Proofs.YtpmlhgakbpfgmaaDoor
/- The contract of partsynccase.New. -/
set_option linter.unusedSimpArgs false
set_option linter.unusedVariables false
namespace Go.Proofs.YtpmlhgakbpfgmaaDoor
open Go.RowKit

/-- What the walk is told of a slice of numbers that came in. -/
def IsRow (k : IntKind) (w : World) (a : Option Addr) (len cap : Nat) (zs : List Int) : Prop :=
  (a = none ∧ len = 0 ∧ cap = 0 ∧ zs = []) ∨
  ∃ x, a = some x ∧ len ≤ cap ∧ cap ≤ maxLen ∧ zs.length = cap ∧ (∀ i, i < zs.length → w.cell? (x.add i) = some (.int k (zs.getD i 0))) ∧ ∀ n ∈ zs, (Lit.int k n).wf = true
theorem IsRow.later {k : IntKind} {w w' : World} {a : Option Addr} {len cap : Nat} {zs : List Int} (h : IsRow k w a len cap zs) (hw : Below w.heap.size w w') : IsRow k w' a len cap zs := by
  refine h.imp id fun ⟨x, h1, h2, h3, h4, h5, h6⟩ => ⟨x, h1, h2, h3, h4, fun i hi => ?_, h6⟩
  have hc := h5 i hi
  have hb : (x.add i).block < w.heap.size := by
    simp only [World.cell?] at hc
    by_cases h : (x.add i).block < w.heap.size
    · exact h
    · rw [Array.getElem?_eq_none (by omega)] at hc; simp at hc
  exact (hw.cell hb).trans hc

def NewPost (w : World) (e : Ending) (w' : World) : Prop := ∃ (b : Nat) (c : CaseId), e = .returned (.pointer (some ⟨b, 0, none⟩)) ∧ w.heap.size ≤ b ∧ CaseAt w' b c ∧ Below w.heap.size w w'

theorem info5 : (Tryd.prog.info? 5).map (fun i => (i.zero, i.size, i.bytes)) = some (some (.int .u8 0), 1, 1) := by kernel_rfl

/-- A case of no numbers. -/
theorem case_none (w : World) (T : TypeId) (a : Option Addr) (cap : Nat) : CaseAt (w.alloc (.cells #[.slice a 0 cap, .int .i64 0] T)) w.heap.size ⟨a, 0, cap⟩ :=
  ⟨0, by simp, by go_simp, by go_simp, by go_simp, by simp, by simp, .inl rfl⟩
/-- A case of numbers in a row that the call has just made. -/
theorem case_some {w : World} {base g m capg : Nat} {ns : List Int} (T : TypeId) (h : w.ownsRow base 5 1 (.slice (some ⟨g, 0, none⟩) m capg) m (ns.map (Value.int .u8))) (hg : g < w.heap.size) (hm : m ≤ 1000) (hns : ∀ n ∈ ns, 0 ≤ n ∧ n ≤ 255) :
    CaseAt (w.alloc (.cells #[.slice (some ⟨g, 0, none⟩) m capg, .int .i64 0] T)) w.heap.size ⟨some ⟨g, 0, none⟩, m, capg⟩ := by
  have hl : ns.length = m := by have := h.1; simpa using this
  refine ⟨0, by simp, by go_simp, by go_simp, by go_simp, by simp, hm, .inr ⟨g, 0, rfl, by simp; omega, by omega, fun i hi => ?_⟩⟩
  have hi' : i < ns.length := by simp only at hi; omega
  refine ⟨ns[i], ?_, hns _ (List.getElem_mem hi')⟩
  have hc := h.cellAt i (by simp only at hi; omega)
  rw [World.cell?_alloc_past _ _ _ (by omega), Nat.zero_add, hc]
  simp [hi']

set_option maxRecDepth 100000 in
theorem new_calls (a : Option Addr) (len cap : Nat) (zs : List Int) (w : World) (hr : IsRow .u8 w a len cap zs) : Calls Tryd.prog 4 #[.slice a len cap, .int .i64 90] w (NewPost w) := by
  rcases hr with ⟨rfl, rfl, rfl, rfl⟩ | ⟨x, rfl, hl, hm, hz, hcell, hwz⟩
  · go_enter Tryd.func4, Tryd.ntmps4
    go_wp2
    go_ret
    exact ⟨_, _, rfl, Nat.le_refl _, case_none w _ none 0, (Below.refl _ _).alloc (Nat.le_refl _) _⟩
  by_cases h0 : len = 0
  · subst h0
    go_enter Tryd.func4, Tryd.ntmps4
    go_wp2
    go_ret
    exact ⟨_, _, rfl, Nat.le_refl _, case_none w _ none 0, (Below.refl _ _).alloc (Nat.le_refl _) _⟩
  obtain ⟨b0, off, spot⟩ := x
  have hc0 := hcell 0 (by omega)
  have hspot : spot = none := by simpa [Addr.add] using World.cell?_spot hc0
  subst hspot
  obtain ⟨i, hi, hz0, hsz, hby⟩ := info_parts info5
  have hnum : ∀ n ∈ zs, 0 ≤ n ∧ n ≤ 255 := fun n hn => by
    have := hwz n hn
    simpa [Lit.wf, IntKind.min, IntKind.max, IntKind.bits, IntKind.signed] using this
  have hnews : ∀ m, m ≤ len → ∀ j u, ((zs.take m).map (Value.int .u8))[j]? = some u → w.cell? ((⟨b0, off, none⟩ : Addr).add j) = some u := fun m hml j u hj => by
    have hjl : j < m ∧ j < zs.length := by
      have := (List.getElem?_eq_some_iff.1 hj).1
      simp at this
      omega
    rw [hcell j hjl.2, ← hj]
    simp [hjl.1, hjl.2]
  have h1 : ∀ m, ∀ u ∈ (zs.take m).map (Value.int .u8), u.oneCell' = true := fun m u hu => by
    obtain ⟨n, _, rfl⟩ := List.mem_map.1 hu
    rfl
  have HNE := Lib.hid hnews
  have H1 := Lib.hid h1
  have HNU := Lib.hid hnum
  have HI := Lib.hid hi
  have HZ := Lib.hid hz0
  have HS := Lib.hid hsz
  have HB := Lib.hid hby
  have HL := Lib.hid hz
  clear hnews h1 hnum hi hz0 hsz hby hcell hwz hc0 hz
  by_cases h90 : len ≤ 90
  · obtain ⟨N, hN⟩ : ∃ N, N = (zs.take len).map (Value.int .u8) := ⟨_, rfl⟩
    have hNl : N.length = len * 1 := by rw [hN]; simp; have := HL.out; omega
    have HN := Lib.hid hN
    have HNL := Lib.hid hNl
    clear hN hNl
    go_enter Tryd.func4, Tryd.ntmps4
    go_wp2_with (at_builtin; refine wpList_append_own _ rfl _ _ 22 rfl w.heap.size 5 i (.int .u8 0) 1 1 Tryd.underlying22 HI.out HZ.out HS.out HB.out rfl (by decide) (.slice none 0 0) 0 [] rfl (World.ownsRow_nil _ _ _ _) ⟨b0, off, none⟩ len cap N rfl HNL.out ?c1 ?c2 ?c3 ?c4 ?c5 ?_)
    case c1 => rw [HN.out]; exact HNE.out len (Nat.le_refl _)
    case c2 => rw [HN.out]; exact H1.out len
    case c3 => unfold maxLen; omega
    case c4 => omega
    case c5 => simp
    intro v' w1 hown hgrow hnil
    have hown' := hown
    obtain ⟨hx, hv | ⟨g, capg, cur, rfl, hg, hh, hcap, hm', hs, ht⟩⟩ := hown
    · exfalso; omega
    rw [HN.out] at hown'
    have HO := Lib.hid hown'
    have HG := Lib.hid hgrow
    have HLT := Lib.hid (Array.getElem?_eq_some_iff.1 hh).1
    clear hown' hgrow hnil hx hh hcap hm' hs ht hg
    go_wp2
    go_ret
    exact ⟨_, _, rfl, HG.out.size, case_some _ HO.out HLT.out (by omega) (fun n hn => HNU.out n (List.mem_of_mem_take hn)), ((Below.refl _ _).grown HG.out (Nat.le_refl _) (fun k hk => by cases hk)).alloc HG.out.size _⟩
  · have h90' : 90 < len := by omega
    obtain ⟨N, hN⟩ : ∃ N, N = (zs.take 90).map (Value.int .u8) := ⟨_, rfl⟩
    have hNl : N.length = 90 * 1 := by rw [hN]; simp; have := HL.out; omega
    have HN := Lib.hid hN
    have HNL := Lib.hid hNl
    clear hN hNl
    go_enter Tryd.func4, Tryd.ntmps4
    go_wp2_with (at_builtin; refine wpList_append_own _ rfl _ _ 22 rfl w.heap.size 5 i (.int .u8 0) 1 1 Tryd.underlying22 HI.out HZ.out HS.out HB.out rfl (by decide) (.slice none 0 0) 0 [] rfl (World.ownsRow_nil _ _ _ _) ⟨b0, off, none⟩ 90 cap N rfl HNL.out ?c1 ?c2 ?c3 ?c4 ?c5 ?_)
    case c1 => rw [HN.out]; exact HNE.out 90 (by omega)
    case c2 => rw [HN.out]; exact H1.out 90
    case c3 => unfold maxLen; omega
    case c4 => omega
    case c5 => simp
    intro v' w1 hown hgrow hnil
    have hown' := hown
    obtain ⟨hx, hv | ⟨g, capg, cur, rfl, hg, hh, hcap, hm', hs, ht⟩⟩ := hown
    · exfalso; omega
    rw [HN.out] at hown'
    have HO := Lib.hid hown'
    have HG := Lib.hid hgrow
    have HLT := Lib.hid (Array.getElem?_eq_some_iff.1 hh).1
    clear hown' hgrow hnil hx hh hcap hm' hs ht hg
    go_wp2
    go_ret
    exact ⟨_, _, rfl, HG.out.size, case_some _ HO.out HLT.out (by omega) (fun n hn => HNU.out n (List.mem_of_mem_take hn)), ((Below.refl _ _).grown HG.out (Nat.le_refl _) (fun k hk => by cases hk)).alloc HG.out.size _⟩
end Go.Proofs.YtpmlhgakbpfgmaaDoor
/- The contract of the reference's Next. -/
set_option linter.unusedSimpArgs false
set_option linter.unusedVariables false
namespace Go.Proofs.YtpmlhgakbpfgmaaDoor
open Go.RowKit

theorem mod_u8 (x : UInt8) (h : (x.toNat : Int) < 255) : ((x.toNat : Int) + 1) % 256 = ((x + 1).toNat : Int) := by
  have : (x + 1).toNat = x.toNat + 1 := by rw [UInt8.toNat_add]; simp; omega
  rw [this]
  omega
end Go.Proofs.YtpmlhgakbpfgmaaDoor
/- Regions whose callees leave what was there as it was, whatever they draw; and how the arguments of the laws are opened. -/
set_option linter.unusedSimpArgs false
set_option linter.unusedVariables false
namespace Go.Proofs.YtpmlhgakbpfgmaaDoor
open Go.ChangeShapes Go.WideShapes Go.ChangeAt Go.RowKit Go.Joins

/-- The world after some other number of draws. -/
def loose (w : World) (d : Nat) : World := { w with drawn := d }
theorem Below.loose {w w' : World} (h : Below w.heap.size w w') : ∃ d os, w' = Sort.grow (loose w d) os := by
  obtain ⟨h1, h2, h3, h4, h5⟩ := h
  refine ⟨w'.drawn, w'.heap.extract w.heap.size w'.heap.size, ?_⟩
  cases w'
  cases w
  simp only at h1 h2 h3 h4 h5
  subst h1 h2 h3
  simp only [Sort.grow, Go.Proofs.YtpmlhgakbpfgmaaDoor.loose, World.mk.injEq, true_and, and_true]
  apply Array.ext_getElem?
  intro k
  rw [Array.getElem?_append]
  split
  · exact h5 k ‹_›
  · rw [Array.getElem?_extract]
    rename_i hk
    split
    · congr 1; omega
    · rename_i hk2; rw [Array.getElem?_eq_none]; omega
@[go_sem] theorem size_loose (w : World) (d : Nat) (os : Array Obj) : (Sort.grow (loose w d) os).heap.size = w.heap.size + os.size := by simp [loose]
@[go_sem] theorem cell_loose (w : World) (d : Nat) (os : Array Obj) (n i : Nat) (h : n < w.heap.size) : (Sort.grow (loose w d) os).cell? ⟨n, i, none⟩ = w.cell? ⟨n, i, none⟩ := by
  rw [Sort.cell?_grow _ _ _ (by simpa [loose] using h)]; rfl
@[go_sem] theorem frozen_loose (w : World) (d : Nat) (os : Array Obj) (n i : Nat) (h : n < w.heap.size) : (Sort.grow (loose w d) os).frozen? ⟨n, i, none⟩ = w.frozen? ⟨n, i, none⟩ := by
  rw [Sort.frozen?_grow _ _ _ (by simpa [loose] using h)]; rfl
theorem below_loose (w : World) (d : Nat) (os : Array Obj) : Below w.heap.size w (Sort.grow (loose w d) os) :=
  ⟨rfl, rfl, rfl, by simp [loose], fun k hk => by simp only [Sort.grow, loose]; rw [Array.getElem?_append, if_pos hk]⟩
theorem wp_region_quiet_loose {id : Nat} {Q : Exit → Act → World → Prop} {a : Act} {w : World} {l : List Oper} (hm : Tryd.prog.follows .mixedOrders = true) (hB : Region.lexB .any l.toArray = true)
    (h : wpQuiet Tryd.prog l.toArray (fun w' => ∃ p : GrownBy, w' = Sort.grow (loose w p.n) p.os) (fun a' => ∀ w', (∃ p : GrownBy, w' = Sort.grow (loose w p.n) p.os) → Q .normal a' w') l a) : (Code.region id l.toArray true).wp Tryd.prog Q a w :=
  wp_region_quiet (C := fun w' => ∃ p : GrownBy, w' = Sort.grow (loose w p.n) p.os) hm hB ⟨⟨w.drawn + 1, #[]⟩, by rw [Sort.grow_empty]; rfl⟩ (by simpa using h)
theorem loose_calls {f : FuncId} {args : Array Value} {w : World} {n : Nat} {os : Array Obj} {v : Value}
    (h : Calls Tryd.prog f args (Sort.grow (loose w n) os) fun e w' => e = .returned v ∧ Below (Sort.grow (loose w n) os).heap.size (Sort.grow (loose w n) os) w') :
    Calls Tryd.prog f args (Sort.grow (loose w n) os) fun e w'' => e = .returned v ∧ ∃ p : GrownBy, w'' = Sort.grow (loose w p.n) p.os :=
  h.mono fun _ _ ⟨he, hb⟩ => by
    obtain ⟨d, os', hw⟩ := Below.loose hb
    refine ⟨he, ⟨d, os ++ os'⟩, ?_⟩
    rw [hw]
    simp [Sort.grow, loose]
/-- A contract that only grows serves, too. -/
theorem gro_loose {f : FuncId} {args : Array Value} {w : World} {n : Nat} {os : Array Obj} {v : Value}
    (h : Calls Tryd.prog f args (Sort.grow (loose w n) os) fun e w' => e = .returned v ∧ Gro (Sort.grow (loose w n) os) w') :
    Calls Tryd.prog f args (Sort.grow (loose w n) os) fun e w'' => e = .returned v ∧ ∃ p : GrownBy, w'' = Sort.grow (loose w p.n) p.os :=
  loose_calls (h.mono fun _ _ ⟨he, hg⟩ => ⟨he, hg.below⟩)

/-! ### arguments -/
/-- A variable's block that holds a value. -/
structure Box (w : World) (b : Nat) (v : V) : Prop where
  lt : b < w.heap.size
  at_ : At w b 0 v
theorem Box.later {w w' : World} {b : Nat} {v : V} (h : Box w b v) (hw : Below w.heap.size w w') : Box w' b v := ⟨Nat.lt_of_lt_of_le h.lt hw.size, h.at_.later h.lt hw⟩
theorem Box.kept {w w' : World} {b c : Nat} {v : V} (h : Box w b v) (hw : w.grownBy w' (some c)) (hne : b ≠ c) : Box w' b v :=
  ⟨Nat.lt_of_lt_of_le h.lt hw.size, ⟨hw.cell h.at_.k (by simp; exact hne), hw.cell h.at_.n (by simp; exact hne), hw.cell h.at_.t (by simp; exact hne)⟩⟩
theorem Box.new (w : World) (v : V) (T : TypeId) : Box (w.alloc (.cells #[.int .i64 v.k, .int .i64 v.n, .string v.t] T)) w.heap.size v :=
  ⟨by simp, ⟨by go_simp, by go_simp, by go_simp⟩⟩
theorem Box.alloc {w : World} {b : Nat} {v : V} (h : Box w b v) (o : Obj) : Box (w.alloc o) b v := h.later ((Below.refl _ _).alloc (Nat.le_refl _) o)
theorem Box.cells {w : World} {b : Nat} {k n : Int} {t : ByteArray} (h : Box w b ⟨k, n, t⟩) :
    b < w.heap.size ∧ w.cell? ⟨b, 0, none⟩ = some (.int .i64 k) ∧ w.cell? ⟨b, 1, none⟩ = some (.int .i64 n) ∧ w.cell? ⟨b, 2, none⟩ = some (.string t) :=
  ⟨h.lt, h.at_.k, h.at_.n, h.at_.t⟩

set_option maxRecDepth 100000 in
theorem own : ownKnob Tryd.prog.godebug = none := by kernel_rfl
set_option maxRecDepth 100000 in
theorem laidOut : laidOutB Tryd.prog = true := by kernel_rfl
set_option maxRecDepth 100000 in
theorem cells24 : Tryd.prog.cellsOf 56 = 3 := by kernel_rfl

section
variable {H : Type} {enc : TypeId × Value → H} {w : World} {base : Nat} {spare : Nat → Bool} {held : Bool}
set_option maxRecDepth 100000 in
/-- A value that came in. -/
theorem open_V {r : Reach} {b0 : Nat} {v : Value} {d : DataW H} {p : List MemPlace} (hv : Value.okWide Tryd.prog w r b0 56 v) (h : DataW.Trod enc Tryd.prog w base spare held 56 v d p) :
    ∃ x : V, v = x.val ∧ -9223372036854775808 ≤ x.n := by
  obtain ⟨c0, c1, c2, y0, y1, y2, m, rfl, rfl, rfl, hy0, hy1, hy2⟩ := open_agg3 Tryd.underlying56 (by kernel_rfl) cells24 hv h
  obtain ⟨a, e0, rfl, wa⟩ := DataW.trod_int Tryd.underlying3 hy0
  obtain ⟨b, e1, rfl, wb⟩ := DataW.trod_int Tryd.underlying2 hy1
  obtain ⟨s, e2, rfl, hsz⟩ := DataW.trod_string Tryd.underlying9 hy2
  simp at e0 e1 e2
  subst e0 e1 e2
  refine ⟨⟨a, b, s⟩, rfl, ?_⟩
  have := wb
  simp [Lit.wf, IntKind.min, IntKind.max, IntKind.bits, IntKind.signed] at this
  exact this.1
set_option maxRecDepth 100000 in
/-- A slice of bytes that came in. -/
theorem open_codes {r : Reach} {b0 : Nat} {v : Value} {d : DataW H} {p : List MemPlace} (hv : Value.okWide Tryd.prog w r b0 22 v) (h : DataW.Trod enc Tryd.prog w base (fun _ => true) held 22 v d p) :
    ∃ a len cap zs, v = .slice a len cap ∧ IsRow .u8 w a len cap zs := by
  obtain ⟨a0, len0, cap0, rfl⟩ := okWide_slice Tryd.underlying22 hv
  obtain ⟨fuel, hf⟩ := h
  rcases open_ints Tryd.underlying22 Tryd.underlying5 (by kernel_rfl) hf with ⟨hcs, _⟩ | ⟨x, l, c, zs, hcs, _, hl, hm, hz, _, hcell, hwz⟩
  · simp [Value.cells] at hcs
    obtain ⟨rfl, rfl, rfl⟩ := hcs
    exact ⟨_, _, _, [], rfl, .inl ⟨rfl, rfl, rfl, rfl⟩⟩
  · simp [Value.cells] at hcs
    obtain ⟨rfl, rfl, rfl⟩ := hcs
    exact ⟨_, _, _, zs, rfl, .inr ⟨_, rfl, hl, hm, by simpa using hz, hcell, hwz⟩⟩
end
end Go.Proofs.YtpmlhgakbpfgmaaDoor
/- Two worlds that have the same blocks where a predicate of blocks says so. -/
set_option linter.unusedSimpArgs false
set_option linter.unusedVariables false
namespace Go.Proofs.YtpmlhgakbpfgmaaDoor
open Go.RowKit

/-- Two worlds that have the same blocks where S says so. -/
structure Kept (S : Nat → Prop) (w w' : World) : Prop where
  size : w.heap.size ≤ w'.heap.size
  block : ∀ k, k < w.heap.size → S k → w'.heap[k]? = w.heap[k]?
theorem Kept.cell {S : Nat → Prop} {w w' : World} (h : Kept S w w') {b o : Nat} (hb : b < w.heap.size) (hs : S b) : w'.cell? ⟨b, o, none⟩ = w.cell? ⟨b, o, none⟩ := World.cell?_of_block (h.block b hb hs)
theorem kept_below {S : Nat → Prop} {w w' : World} (h : Below w.heap.size w w') : Kept S w w' := ⟨h.size, fun k hk _ => h.block k hk⟩
theorem kept_by {S : Nat → Prop} {w w' : World} {r : Option Nat} (h : w.grownBy w' r) (hs : ∀ g, r = some g → ¬ S g) : Kept S w w' := ⟨h.size, fun k hk hS => h.block k hk (fun e => hs k e.symm hS)⟩
theorem Kept.refl (S : Nat → Prop) (w : World) : Kept S w w := ⟨Nat.le_refl _, fun _ _ _ => rfl⟩
theorem Kept.trans {S : Nat → Prop} {a b c : World} (h : Kept S a b) (k : Kept S b c) : Kept S a c := ⟨Nat.le_trans h.size k.size, fun i hi hs => (k.block i (Nat.lt_of_lt_of_le hi h.size) hs).trans (h.block i hi hs)⟩
theorem Kept.mono {S S' : Nat → Prop} {a b : World} (h : Kept S a b) (hs : ∀ k, k < a.heap.size → S' k → S k) : Kept S' a b := ⟨h.size, fun i hi h' => h.block i hi (hs i hi h')⟩
end Go.Proofs.YtpmlhgakbpfgmaaDoor
