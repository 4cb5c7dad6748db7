/- Contracts of partsynccase.Case's Bool and Cells. -/
import Derived.Test.YtllakifmflploaaH
import Derived.Test.YtllakifmflploaaC
import Derived.Laws.AppendOwn
import Derived.Laws.AppendOwnNone
set_option linter.unusedSimpArgs false
set_option linter.unusedVariables false
namespace Go.Proofs.Ytllakifmflploaa
open Go.RowKit

def GotB (b : Nat) (c : CaseId) (w : World) (e : Ending) (w' : World) : Prop := ∃ x : Bool, e = .returned (.bool x) ∧ CaseAt w' b c ∧ w.grownBy w' (some b)
theorem bool_calls (b : Nat) (c : CaseId) (w : World) (hc : CaseAt w b c) : Calls Try.prog 67 #[.pointer (some ⟨b, 0, none⟩), .int .i64 3] w (GotB b c w) := by
  have hi := int_calls b c 3 (by omega) (by omega) w hc
  have HI := Lib.hid hi
  clear hi hc
  go_enter Try.func67, Try.ntmps67
  go_wp2_with fail
  refine HI.out.mono ?_
  rintro e w' ⟨x, rfl, hx0, hx1, hcs, hby⟩
  have HC := Lib.hid hcs
  have HB := Lib.hid hby
  clear hcs hby HI
  go_wp2
  go_ret
  exact ⟨_, rfl, HC.out, HB.out⟩

theorem flat_snoc (r : List V) (v : V) : flat (r ++ [v]) = flat r ++ [.int .i64 v.k, .int .i64 v.n, .string v.t] := by
  induction r with
  | nil => rfl
  | cons a r ih => simp [flat, ih]
theorem by_mono {w w' : World} {r r' : Option Nat} (h : w.grownBy w' r) (hr : ∀ k, k < w.heap.size → some k ≠ r' → some k ≠ r) : w.grownBy w' r' :=
  ⟨h.os, h.tape, h.output, h.size, fun k hk hn => h.block k hk (hr k hk hn)⟩

theorem by_own {w0 w w' : World} {b : Nat} {r : Option Nat} (h : w0.grownBy w (some b)) (hg : w.grownBy w' r) (hr : ∀ k, r = some k → w0.heap.size ≤ k) : w0.grownBy w' (some b) :=
  ⟨hg.os.trans h.os, hg.tape.trans h.tape, hg.output.trans h.output, Nat.le_trans h.size hg.size, fun k hk hn => (hg.block k (Nat.lt_of_lt_of_le hk h.size) (fun e => by have := hr k e.symm; omega)).trans (h.block k hk hn)⟩
/-- A change of what is the call's own. -/
theorem CaseAt.kept {w0 w w' : World} {b : Nat} {c : CaseId} {r : Option Nat} (h0 : CaseAt w0 b c) (h : CaseAt w b c) (hg : w.grownBy w' r) (hr : ∀ k, r = some k → w0.heap.size ≤ k) : CaseAt w' b c := by
  obtain ⟨pos, h⟩ := h
  obtain ⟨pos0, h0⟩ := h0
  have hb := h0.lt
  have hne : ∀ k, k < w0.heap.size → some k ≠ r := fun k hk e => by have := hr k e.symm; omega
  refine ⟨pos, Nat.lt_of_lt_of_le h.lt hg.size, hg.cell h.c0 (hne _ hb), hg.cell h.c1 (hne _ hb), by rw [World.frozen?_of_block (w := w) (hg.block b h.lt (hne _ hb))]; exact h.f1, h.le, h.few, ?_⟩
  rcases h0.num with h0n | ⟨g0, off0, e0, h00, _⟩
  · exact .inl h0n
  · rcases h.num with hn' | ⟨g, off, e, h1, h2, h3⟩
    · exact .inl hn'
    · rw [e0] at e
      simp only [Option.some.injEq, Addr.mk.injEq] at e
      obtain ⟨rfl, rfl, -⟩ := e
      exact .inr ⟨g0, off0, e0, Nat.lt_of_lt_of_le h1 hg.size, h2, fun i hi => let ⟨x, k1, k2⟩ := h3 i hi; ⟨x, hg.cell k1 (hne _ h00), k2⟩⟩
theorem cell_three_new (w : World) (x y z : Value) (t : TypeId) : ∀ j u, [x, y, z][j]? = some u → (w.alloc (.cells #[x, y, z] t)).cell? ((⟨w.heap.size, 0, none⟩ : Addr).add j) = some u := by
  intro j u hj
  rcases j with _ | _ | _ | j
  · simp at hj; subst hj; show (w.alloc _).cell? ⟨w.heap.size, 0 + 0, none⟩ = _; go_simp
  · simp at hj; subst hj; show (w.alloc _).cell? ⟨w.heap.size, 0 + 1, none⟩ = _; go_simp
  · simp at hj; subst hj; show (w.alloc _).cell? ⟨w.heap.size, 0 + 2, none⟩ = _; go_simp
  · simp at hj
theorem own_far {w : World} {base b : Nat} {e : TypeId} {size n : Nat} {v : Value} {xs : List Value} (h : w.ownsRow base e size v n xs) (hb : b < base) : v.ownBlock = none ∨ v.ownBlock ≠ some b := by
  cases hv : v.ownBlock with
  | none => exact .inl rfl
  | some k => right; intro e; cases e; have := (h.lt b hv).1; omega

theorem wrap_pred (k : Nat) (h0 : 0 < k) (h : k ≤ 4398046511104) : wrap64 ((k : Int) - 1) = (k : Int) - 1 := by
  unfold wrap64
  omega
def GotRow (b : Nat) (c : CaseId) (n : Nat) (w : World) (e : Ending) (w' : World) : Prop :=
  ∃ (v : Value) (r : List V), e = .returned v ∧ r.length = n ∧ w'.ownsRow w.heap.size 35 3 v r.length (flat r) ∧ CaseAt w' b c ∧ w.grownBy w' (some b)

/-- All cells are valid values. -/
def AllV (r : List V) : Prop := ∀ x ∈ r, validB x = true ∧ isNum x.n
theorem AllV.snoc {r : List V} (h : AllV r) {x : V} (h1 : validB x = true) (h2 : isNum x.n) : AllV (r ++ [x]) := by
  intro y hy
  rcases List.mem_append.1 hy with hy | hy
  · exact h y hy
  · rw [List.mem_singleton] at hy; subst hy; exact ⟨h1, h2⟩
def GotRowV (b : Nat) (c : CaseId) (n : Nat) (w : World) (e : Ending) (w' : World) : Prop :=
  ∃ (v : Value) (r : List V), e = .returned v ∧ r.length = n ∧ w'.ownsRow w.heap.size 35 3 v r.length (flat r) ∧ CaseAt w' b c ∧ w.grownBy w' (some b) ∧ AllV r

set_option maxHeartbeats 1000000 in
set_option maxRecDepth 100000 in
theorem cellsv_calls (b : Nat) (c : CaseId) (n : Nat) (hn : n ≤ 90) (w : World) (hc : CaseAt w b c) : Calls Try.prog 27 #[.pointer (some ⟨b, 0, none⟩), .int .i64 n] w (GotRowV b c n w) := by
  obtain ⟨i, hi, hz, hsz, hby⟩ := info_parts info24
  have HC := Lib.hid hc
  have HI := Lib.hid hi
  have HZ := Lib.hid hz
  have HSZ := Lib.hid hsz
  have HBY := Lib.hid hby
  clear hc hi hz hsz hby
  go_enter Try.func27, Try.ntmps27
  go_wp2_with fail
  go_loopw [1, 5] (fun i v wr => ∃ (k : Nat) (r : List V), k + r.length = n ∧ i = .int .i64 k ∧ wr.ownsRow w.heap.size 35 3 v r.length (flat r) ∧ CaseAt wr b c ∧ w.grownBy wr (some b) ∧ AllV r) (fun i _ _ => (intOf i).toNat)
  case atStart => exact ⟨n, [], by simp, rfl, World.ownsRow_nil _ _ _ _, HC.out, ⟨rfl, rfl, rfl, Nat.le_refl _, fun _ _ _ => rfl⟩, fun x hx => absurd hx (by simp)⟩
  case round =>
    obtain ⟨k, r, hkr, rfl, hown, hcr, hbr, hallv⟩ := hrel
    have HAV := Lib.hid hallv
    clear hallv
    have HOW := Lib.hid hown
    have HCR := Lib.hid hcr
    have HBR := Lib.hid hbr
    have HKR := Lib.hid hkr
    clear hown hcr hbr hkr
    by_cases hlt : 0 < k
    · have hb0 : b < w.heap.size := HC.out.lt
      have hlt' : decide ((0 : Int) < (k : Int)) = true := by simp; omega
      have hwj := wrap_pred k hlt (by have := HKR.out; omega)
      go_wp2_with fail
      refine (any_calls b c wr HCR.out).mono ?_
      rintro e w2 ⟨⟨vk, vn, vt⟩, rfl, hval, hnum, hc2, hby2⟩
      have HC2 := Lib.hid hc2
      have HB2 := Lib.hid hby2
      have hb2 : w.grownBy w2 (some b) := by_trans HBR.out hby2
      have HBB := Lib.hid hb2
      have HO2 := Lib.hid (HOW.out.kept hby2 (own_far HOW.out hb0))
      have hln : r.length + 1 ≤ 4398046511104 := by have := HKR.out; omega
      have hbase : w.heap.size ≤ w2.heap.size := hb2.size
      have HVN := Lib.hid (And.intro hval hnum)
      clear hc2 hby2 hb2 hval hnum
      go_wp2_with (at_builtin; go_must (refine wpList_append_own _ rfl _ _ 25 rfl w.heap.size 35 i (V.val ⟨0, 0, ⟨#[]⟩⟩) 3 32 Try.underlying25 HI.out HZ.out HSZ.out HBY.out rfl (by decide) _ r.length (flat r) rfl (HO2.out.alloc _) ⟨w2.heap.size, 0, none⟩ 1 1 [.int .i64 vk, .int .i64 vn, .string vt] rfl rfl ?c1 ?c2 ?c3 ?c4 ?c5 ?_))
      case c1 => exact cell_three_new _ _ _ _ _
      case c2 => intro x hx; simp at hx; rcases hx with rfl | rfl | rfl <;> rfl
      case c3 => unfold maxLen; omega
      case c4 => omega
      case c5 => simp; omega
      intro v' w7 hown' hgrow hnil
      have HOW' := Lib.hid hown'
      have HG7 := Lib.hid hgrow
      clear hown' hgrow hnil
      go_wp2
      go_roundw
      case rel =>
        have hal := World.grownBy_alloc w2 (.cells #[.int .i64 vk, .int .i64 vn, .string vt] 35)
        refine ⟨k - 1, r ++ [⟨vk, vn, vt⟩], by simp; have := HKR.out; omega, by congr 1; omega, ?_, ?_, ?_, HAV.out.snoc HVN.out.1 HVN.out.2⟩
        · rw [flat_snoc, List.length_append]; exact HOW'.out
        · exact HC.out.kept (HC2.out.grown (hal none)) HG7.out (fun k hk => (HO2.out.lt k hk).1)
        · exact by_own (by_trans HBB.out (hal _)) HG7.out (fun k hk => (HO2.out.lt k hk).1)
      case measure => simp only [intOf]; omega
    · obtain rfl : k = 0 := by omega
      have hkr : r.length = n := by have := HKR.out; omega
      go_wp2
      go_ret
      exact ⟨_, r, rfl, hkr, HOW.out, HCR.out, HBR.out, HAV.out⟩

theorem cells_calls (b : Nat) (c : CaseId) (n : Nat) (hn : n ≤ 90) (w : World) (hc : CaseAt w b c) : Calls Try.prog 27 #[.pointer (some ⟨b, 0, none⟩), .int .i64 n] w (GotRow b c n w) :=
  (cellsv_calls b c n hn w hc).mono fun _ _ ⟨v, r, h1, h2, h3, h4, h5, _⟩ => ⟨v, r, h1, h2, h3, h4, h5⟩
end Go.Proofs.Ytllakifmflploaa
