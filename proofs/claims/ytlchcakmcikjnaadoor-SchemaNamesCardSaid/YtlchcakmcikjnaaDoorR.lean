/- Rows in memory, and the contracts of slices.CompareFunc, value.CompareRows and the reference's CompareRows. -/
import Derived.Test.YtlchcakmcikjnaaDoorA3
set_option linter.unusedSimpArgs false
set_option linter.unusedVariables false
namespace Go.Proofs.YtlchcakmcikjnaaDoor
open Go.RowKit

/-- The three cells of a value. -/
structure At (w : World) (b off : Nat) (v : V) : Prop where
  k : w.cell? ⟨b, off, none⟩ = some (.int .i64 v.k)
  n : w.cell? ⟨b, off + 1, none⟩ = some (.int .i64 v.n)
  t : w.cell? ⟨b, off + 2, none⟩ = some (.string v.t)
/-- A slice value that reads as a row. -/
structure RowIn (w : World) (b off : Nat) (r : List V) : Prop where
  blk : b < w.heap.size
  at_ : ∀ i (h : i < r.length), At w b (off + i * 3) r[i]
def RowAt (w : World) (v : Value) (r : List V) : Prop :=
  ∃ (a : Option Addr) (cap : Nat), v = .slice a r.length cap ∧ r.length ≤ 4398046511104 ∧ (r = [] ∨ ∃ b off, a = some ⟨b, off, none⟩ ∧ RowIn w b off r)

theorem At.later {w w' : World} {b off : Nat} {v : V} (h : At w b off v) (hb : b < w.heap.size) (hw : Below w.heap.size w w') : At w' b off v :=
  ⟨(hw.cell (p := ⟨b, off, none⟩) hb).trans h.k, (hw.cell (p := ⟨b, off + 1, none⟩) hb).trans h.n, (hw.cell (p := ⟨b, off + 2, none⟩) hb).trans h.t⟩
theorem RowIn.later {w w' : World} {b off : Nat} {r : List V} (h : RowIn w b off r) (hw : Below w.heap.size w w') : RowIn w' b off r :=
  ⟨Nat.lt_of_lt_of_le h.blk hw.size, fun i hi => (h.at_ i hi).later h.blk hw⟩
theorem RowAt.later {w w' : World} {v : Value} {r : List V} (h : RowAt w v r) (hw : Below w.heap.size w w') : RowAt w' v r := by
  obtain ⟨a, cap, h1, h2, h3⟩ := h
  exact ⟨a, cap, h1, h2, h3.imp id fun ⟨b, off, h4, h5⟩ => ⟨b, off, h4, h5.later hw⟩⟩

set_option maxHeartbeats 1000000 in
theorem refCompareRows_calls (va vb : Value) (a b : List V) (w : World) (ha : RowAt w va a) (hb : RowAt w vb b) :
    Calls Tryd.prog 21 #[va, vb] w fun e w' => e = .returned (.int .i64 (cmpR a b)) ∧ Gro w w' := by
  obtain ⟨pa, ca, rfl, la, ha⟩ := ha
  obtain ⟨pb, cb, rfl, lb, hb⟩ := hb
  obtain ⟨w0, rfl⟩ : ∃ w0, w0 = w := ⟨_, rfl⟩
  go_enter Tryd.func21, Tryd.ntmps21
  go_wp2
  go_loopw [5, 6] (fun i _ wr => ∃ k : Nat, k ≤ a.length ∧ k ≤ b.length ∧ i = .int .i64 k ∧ cmpR a b = cmpR (a.drop k) (b.drop k) ∧ Gro w0 wr) (fun i _ _ => a.length - (intOf i).toNat)
  case atStart => exact ⟨0, by omega, by omega, rfl, rfl, Gro.refl _⟩
  case round =>
    have mx := mixed
    obtain ⟨k, hka, hkb, rfl, hc, hg⟩ := hrel
    have HC := Lib.hid hc
    have HG := Lib.hid hg
    clear hc hg
    by_cases h1 : k < a.length
    · by_cases h2 : k < b.length
      · rcases ha with ha | ⟨ba, oa, rfl, ha⟩
        · exfalso; rw [ha] at h1; simp at h1
        rcases hb with hb | ⟨bb, ob, rfl, hb⟩
        · exfalso; rw [hb] at h2; simp at h2
        have aa := ha.later HG.out.below
        have bb' := hb.later HG.out.below
        obtain ⟨a1, a2, a3⟩ := aa.at_ k h1
        obtain ⟨b1, b2, b3⟩ := bb'.at_ k h2
        have a4 := aa.blk
        have b4 := bb'.blk
        clear ha hb aa bb'
        have hxa : a[k] = ⟨a[k].k, a[k].n, a[k].t⟩ := rfl
        have hxb : b[k] = ⟨b[k].k, b[k].n, b[k].t⟩ := rfl
        have HXA := Lib.hid hxa
        have HXB := Lib.hid hxb
        clear hxa hxb
        generalize a[k].k = ak at a1 HXA
        generalize a[k].n = an at a2 HXA
        generalize a[k].t = aT at a3 HXA
        generalize b[k].k = bk at b1 HXB
        generalize b[k].n = bn at b2 HXB
        generalize b[k].t = bT at b3 HXB
        have hstep : cmpR (a.drop k) (b.drop k) = if cmpV ⟨ak, an, aT⟩ ⟨bk, bn, bT⟩ = 0 then cmpR (a.drop (k + 1)) (b.drop (k + 1)) else cmpV ⟨ak, an, aT⟩ ⟨bk, bn, bT⟩ := by
          rw [List.drop_eq_getElem_cons h1, List.drop_eq_getElem_cons h2, HXA.out, HXB.out]
          rfl
        have h2' : ¬ b.length ≤ k := by omega
        have hcc := refCompare_calls ⟨ak, an, aT⟩ ⟨bk, bn, bT⟩
        generalize cmpV ⟨ak, an, aT⟩ ⟨bk, bn, bT⟩ = c at hstep hcc
        have HS := Lib.hid hstep
        have HCC := Lib.hid hcc
        clear hstep hcc
        have d1 : decide ((k : Int) < (a.length : Int)) = true := by simp; omega
        have d2 : decide ((k : Int) < (b.length : Int)) = true := by simp; omega
        by_cases e : c = 0
        · subst e
          go_wp2_with fail
          go_quiet_grown (first | (go_at_call 42; refine gro_calls (HCC.out _)))
          go_wp2
          go_roundw
          case rel => exact ⟨k + 1, by omega, by omega, by go_num, by rw [HC.out, HS.out]; simp, HG.out.grown _ _⟩
          case measure => simp [intOf]; omega
        · have e' : (c != 0) = true := by simpa using e
          have HE : Hid (c = cmpR a b) := by show _ = _; rw [HC.out, HS.out, if_neg e]
          clear e
          go_wp2_with fail
          go_quiet_grown (first | (go_at_call 42; refine gro_calls (HCC.out _)))
          go_wp2
          go_ret
          exact ⟨ret_i HE.out, HG.out.grown _ _⟩
      · have HE : Hid (1 = cmpR a b) := by
          show _ = _
          rw [HC.out, List.drop_eq_getElem_cons h1, List.drop_eq_nil_of_le (show b.length ≤ _ by omega)]
          rfl
        have d1 : decide ((k : Int) < (a.length : Int)) = true := by simp; omega
        have d2 : decide ((k : Int) < (b.length : Int)) = false := by simp; omega
        have d3 : decide ((a.length : Int) < (b.length : Int)) = false := by simp; omega
        have d4 : decide ((b.length : Int) < (a.length : Int)) = true := by simp; omega
        clear ha hb
        go_wp2
        go_ret
        exact ⟨ret_i HE.out, HG.out⟩
    · have hk : k = a.length := by omega
      subst hk
      clear ha hb
      by_cases h2 : a.length < b.length
      · have HE : Hid (-1 = cmpR a b) := by
          show _ = _
          rw [HC.out, List.drop_eq_nil_of_le (show a.length ≤ _ from Nat.le_refl _), List.drop_eq_getElem_cons h2]
          rfl
        go_wp2
        go_ret
        exact ⟨ret_i HE.out, HG.out⟩
      · have HE : Hid (0 = cmpR a b) := by
          show _ = _
          rw [HC.out, List.drop_eq_nil_of_le (show a.length ≤ _ from Nat.le_refl _), List.drop_eq_nil_of_le (show b.length ≤ _ by omega)]
          rfl
        have h3 : ¬ b.length < a.length := by omega
        go_wp2
        go_ret
        exact ⟨ret_i HE.out, HG.out⟩
end Go.Proofs.YtlchcakmcikjnaaDoor
