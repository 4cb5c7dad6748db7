/- Rows in memory, and the contracts of slices.CompareFunc, value.CompareRows and the reference's CompareRows. -/
import Derived.Test.YtpmlhgakbpfgmaaDoorA2
import Derived.OwnWalk
import Derived.Laws.OwnMore
import Derived.Laws.CopyRow
import Derived.Deep.OwnRows
set_option linter.unusedSimpArgs false
set_option linter.unusedVariables false
namespace Go.Proofs.YtpmlhgakbpfgmaaDoor
open Go.RowKit

/-- The three cells of a value. -/
structure At (w : World) (b off : Nat) (v : V) : Prop where
  k : w.cell? ⟨b, off, none⟩ = some (.int .i64 v.k)
  n : w.cell? ⟨b, off + 1, none⟩ = some (.int .i64 v.n)
  t : w.cell? ⟨b, off + 2, none⟩ = some (.string v.t)
/-- A slice value that reads as a row. -/
structure RowIn (w : World) (b off : Nat) (r : List V) : Prop where
  blk : b < w.heap.size
  at_ : ∀ i (h : i < r.length), At w b (off + i * 3) r[i]
def RowAt (w : World) (v : Value) (r : List V) : Prop :=
  ∃ (a : Option Addr) (cap : Nat), v = .slice a r.length cap ∧ r.length ≤ 4398046511104 ∧ (r = [] ∨ ∃ b off, a = some ⟨b, off, none⟩ ∧ RowIn w b off r)

theorem At.later {w w' : World} {b off : Nat} {v : V} (h : At w b off v) (hb : b < w.heap.size) (hw : Below w.heap.size w w') : At w' b off v :=
  ⟨(hw.cell (p := ⟨b, off, none⟩) hb).trans h.k, (hw.cell (p := ⟨b, off + 1, none⟩) hb).trans h.n, (hw.cell (p := ⟨b, off + 2, none⟩) hb).trans h.t⟩
theorem RowIn.later {w w' : World} {b off : Nat} {r : List V} (h : RowIn w b off r) (hw : Below w.heap.size w w') : RowIn w' b off r :=
  ⟨Nat.lt_of_lt_of_le h.blk hw.size, fun i hi => (h.at_ i hi).later h.blk hw⟩
theorem RowAt.later {w w' : World} {v : Value} {r : List V} (h : RowAt w v r) (hw : Below w.heap.size w w') : RowAt w' v r := by
  obtain ⟨a, cap, h1, h2, h3⟩ := h
  exact ⟨a, cap, h1, h2, h3.imp id fun ⟨b, off, h4, h5⟩ => ⟨b, off, h4, h5.later hw⟩⟩

set_option maxHeartbeats 1000000 in
theorem refCompareRows_calls (va vb : Value) (a b : List V) (w : World) (ha : RowAt w va a) (hb : RowAt w vb b) :
    Calls Tryd.prog 13 #[va, vb] w fun e w' => e = .returned (.int .i64 (cmpR a b)) ∧ Gro w w' := by
  obtain ⟨pa, ca, rfl, la, ha⟩ := ha
  obtain ⟨pb, cb, rfl, lb, hb⟩ := hb
  obtain ⟨w0, rfl⟩ : ∃ w0, w0 = w := ⟨_, rfl⟩
  go_enter Tryd.func13, Tryd.ntmps13
  go_wp2
  go_loopw [5, 6] (fun i _ wr => ∃ k : Nat, k ≤ a.length ∧ k ≤ b.length ∧ i = .int .i64 k ∧ cmpR a b = cmpR (a.drop k) (b.drop k) ∧ Gro w0 wr) (fun i _ _ => a.length - (intOf i).toNat)
  case atStart => exact ⟨0, by omega, by omega, rfl, rfl, Gro.refl _⟩
  case round =>
    have mx := mixed
    obtain ⟨k, hka, hkb, rfl, hc, hg⟩ := hrel
    have HC := Lib.hid hc
    have HG := Lib.hid hg
    clear hc hg
    by_cases h1 : k < a.length
    · by_cases h2 : k < b.length
      · rcases ha with ha | ⟨ba, oa, rfl, ha⟩
        · exfalso; rw [ha] at h1; simp at h1
        rcases hb with hb | ⟨bb, ob, rfl, hb⟩
        · exfalso; rw [hb] at h2; simp at h2
        have aa := ha.later HG.out.below
        have bb' := hb.later HG.out.below
        obtain ⟨a1, a2, a3⟩ := aa.at_ k h1
        obtain ⟨b1, b2, b3⟩ := bb'.at_ k h2
        have a4 := aa.blk
        have b4 := bb'.blk
        clear ha hb aa bb'
        have hxa : a[k] = ⟨a[k].k, a[k].n, a[k].t⟩ := rfl
        have hxb : b[k] = ⟨b[k].k, b[k].n, b[k].t⟩ := rfl
        have HXA := Lib.hid hxa
        have HXB := Lib.hid hxb
        clear hxa hxb
        generalize a[k].k = ak at a1 HXA
        generalize a[k].n = an at a2 HXA
        generalize a[k].t = aT at a3 HXA
        generalize b[k].k = bk at b1 HXB
        generalize b[k].n = bn at b2 HXB
        generalize b[k].t = bT at b3 HXB
        have hstep : cmpR (a.drop k) (b.drop k) = if cmpV ⟨ak, an, aT⟩ ⟨bk, bn, bT⟩ = 0 then cmpR (a.drop (k + 1)) (b.drop (k + 1)) else cmpV ⟨ak, an, aT⟩ ⟨bk, bn, bT⟩ := by
          rw [List.drop_eq_getElem_cons h1, List.drop_eq_getElem_cons h2, HXA.out, HXB.out]
          rfl
        have h2' : ¬ b.length ≤ k := by omega
        have hcc := refCompare_calls ⟨ak, an, aT⟩ ⟨bk, bn, bT⟩
        generalize cmpV ⟨ak, an, aT⟩ ⟨bk, bn, bT⟩ = c at hstep hcc
        have HS := Lib.hid hstep
        have HCC := Lib.hid hcc
        clear hstep hcc
        have d1 : decide ((k : Int) < (a.length : Int)) = true := by simp; omega
        have d2 : decide ((k : Int) < (b.length : Int)) = true := by simp; omega
        by_cases e : c = 0
        · subst e
          go_wp2_with fail
          go_quiet_grown (first | (go_at_call 27; refine gro_calls (HCC.out _)))
          go_wp2
          go_roundw
          case rel => exact ⟨k + 1, by omega, by omega, by go_num, by rw [HC.out, HS.out]; simp, HG.out.grown _ _⟩
          case measure => simp [intOf]; omega
        · have e' : (c != 0) = true := by simpa using e
          have HE : Hid (c = cmpR a b) := by show _ = _; rw [HC.out, HS.out, if_neg e]
          clear e
          go_wp2_with fail
          go_quiet_grown (first | (go_at_call 27; refine gro_calls (HCC.out _)))
          go_wp2
          go_ret
          exact ⟨ret_i HE.out, HG.out.grown _ _⟩
      · have HE : Hid (1 = cmpR a b) := by
          show _ = _
          rw [HC.out, List.drop_eq_getElem_cons h1, List.drop_eq_nil_of_le (show b.length ≤ _ by omega)]
          rfl
        have d1 : decide ((k : Int) < (a.length : Int)) = true := by simp; omega
        have d2 : decide ((k : Int) < (b.length : Int)) = false := by simp; omega
        have d3 : decide ((a.length : Int) < (b.length : Int)) = false := by simp; omega
        have d4 : decide ((b.length : Int) < (a.length : Int)) = true := by simp; omega
        clear ha hb
        go_wp2
        go_ret
        exact ⟨ret_i HE.out, HG.out⟩
    · have hk : k = a.length := by omega
      subst hk
      clear ha hb
      by_cases h2 : a.length < b.length
      · have HE : Hid (-1 = cmpR a b) := by
          show _ = _
          rw [HC.out, List.drop_eq_nil_of_le (show a.length ≤ _ from Nat.le_refl _), List.drop_eq_getElem_cons h2]
          rfl
        go_wp2
        go_ret
        exact ⟨ret_i HE.out, HG.out⟩
      · have HE : Hid (0 = cmpR a b) := by
          show _ = _
          rw [HC.out, List.drop_eq_nil_of_le (show a.length ≤ _ from Nat.le_refl _), List.drop_eq_nil_of_le (show b.length ≤ _ by omega)]
          rfl
        have h3 : ¬ b.length < a.length := by omega
        go_wp2
        go_ret
        exact ⟨ret_i HE.out, HG.out⟩
end Go.Proofs.YtpmlhgakbpfgmaaDoor
/- Rows that the call owns, and the contracts of value.copyRow and the reference's Copy. -/
set_option linter.unusedSimpArgs false
set_option linter.unusedVariables false
namespace Go.Proofs.YtpmlhgakbpfgmaaDoor
open Go.RowKit

/-- The cells of a row. -/
def flat : List V → List Value
  | [] => []
  | v :: r => .int .i64 v.k :: .int .i64 v.n :: .string v.t :: flat r
theorem flat_length (r : List V) : (flat r).length = r.length * 3 := by
  induction r with
  | nil => rfl
  | cons v r ih => simp [flat, ih]; omega
theorem flat_one (r : List V) : ∀ v ∈ flat r, v.oneCell' = true := by
  induction r with
  | nil => simp [flat]
  | cons v r ih => simp [flat, Value.oneCell']; exact ih
theorem flat_at (r : List V) (i : Nat) (h : i < r.length) : (flat r)[i * 3]? = some (.int .i64 r[i].k) ∧ (flat r)[i * 3 + 1]? = some (.int .i64 r[i].n) ∧ (flat r)[i * 3 + 2]? = some (.string r[i].t) := by
  induction r generalizing i with
  | nil => simp at h
  | cons v r ih =>
    rcases i with _ | i
    · simp [flat]
    · have := ih i (by simpa using h)
      rw [show (i + 1) * 3 = i * 3 + 3 from by omega]
      simpa [flat] using this
theorem flat_cells {w : World} {b : Nat} (r : List V) (off : Nat) (h : ∀ i (h : i < r.length), At w b (off + i * 3) r[i]) (j : Nat) (v : Value) (hj : (flat r)[j]? = some v) : w.cell? ⟨b, off + j, none⟩ = some v := by
  induction r generalizing off j with
  | nil => simp [flat] at hj
  | cons x r ih =>
    obtain ⟨k0, n0, t0⟩ := h 0 (by simp)
    simp at k0 n0 t0
    rcases j with _ | _ | _ | j
    · simp [flat] at hj; rw [← hj]; simpa using k0
    · simp [flat] at hj; rw [← hj]; simpa using n0
    · simp [flat] at hj; rw [← hj]; simpa using t0
    · have := ih (off + 3) (fun i hi => by
        have := h (i + 1) (by simpa using hi)
        rw [show off + (i + 1) * 3 = off + 3 + i * 3 from by omega] at this
        simpa using this) j (by simpa [flat] using hj)
      rw [show off + (j + 1 + 1 + 1) = off + 3 + j from by omega]
      exact this
theorem RowAt.of_owned {w : World} {base : Nat} {u : Value} {r : List V} (h : w.ownsRow base 56 3 u r.length (flat r)) (hl : r.length ≤ 4398046511104) : RowAt w u r := by
  have h0 := h
  obtain ⟨hx, hv | ⟨g, cap, cur, hv, hg, hh, hcap, hm, hs, ht⟩⟩ := h
  · obtain ⟨rfl, hn⟩ := hv
    obtain rfl : r = [] := List.eq_nil_of_length_eq_zero hn
    exact ⟨none, 0, rfl, by simp, .inl rfl⟩
  · subst hv
    refine ⟨some ⟨g, 0, none⟩, cap, rfl, hl, ?_⟩
    by_cases hr : r = []
    · exact .inl hr
    · refine .inr ⟨g, 0, rfl, (Array.getElem?_eq_some_iff.1 hh).1, fun i hi => ?_⟩
      obtain ⟨f0, f1, f2⟩ := flat_at r i hi
      have c0 := h0.cellAt (i * 3) (by omega)
      have c1 := h0.cellAt (i * 3 + 1) (by omega)
      have c2 := h0.cellAt (i * 3 + 2) (by omega)
      simp only [Nat.zero_add]
      exact ⟨c0.trans f0, c1.trans f1, c2.trans f2⟩

theorem info24 : (Tryd.prog.info? 56).map (fun i => (i.zero, i.size, i.bytes)) = some (some (V.val ⟨0, 0, ⟨#[]⟩⟩), 3, 32) := by kernel_rfl
theorem info38 : (Tryd.prog.info? 27).map (fun i => (i.zero, i.size, i.bytes)) = some (some (.slice none 0 0), 1, 24) := by kernel_rfl

/-- 'copy' of a row into one that the call has just made. -/
theorem run_copy3 (w : World) (ty : TypeId) (a : Option Addr) (cap n g : Nat) (cur : Array Value) (r : List V) (hn : n = r.length) (hg : w.heap[g]? = some (.cells cur 56 (0, 0))) (hcur : cur.size = n * 3)
    (hsrc : r = [] ∨ ∃ b off, a = some ⟨b, off, none⟩ ∧ RowIn w b off r) :
    ∃ w', (Builtin.copy_ #[27, 27] ty #[.slice (some ⟨g, 0, none⟩) n n, .slice a n cap]).run Tryd.prog w = .ok (goInt n) w' ∧ w'.heap[g]? = some (.cells (flat r).toArray 56 (0, 0)) ∧ w.grownBy w' (some g) := by
  obtain ⟨i, hi, hz, hsz, hby⟩ := info_parts info24
  subst hn
  by_cases hr : r = []
  · subst hr
    simp only [List.length_nil, Nat.zero_mul] at hcur
    obtain rfl : cur = #[] := Array.eq_empty_of_size_eq_zero hcur
    refine ⟨w, ?_, hg, ⟨rfl, rfl, rfl, Nat.le_refl _, fun _ _ _ => rfl⟩⟩
    cases a <;> simp [Builtin.copy_, run_underlying Tryd.underlying27, Builtin.lenOf, Builtin.firstCells, sizeOf, typeInfo, hi, hsz, storeCells, loadCells, loadCellsFrom]
  · obtain ⟨b, off, rfl, hb⟩ := hsrc.resolve_left hr
    have hl := run_loadCells_list (P := Tryd.prog) w ⟨b, off, none⟩ (flat r) (fun j v hj => by
      have := flat_cells r off hb.at_ j v hj
      rcases j with _ | j <;> simpa [Addr.add] using this)
    have hst := run_storeCells_at Tryd.prog g 0 56 (flat r) 0 cur w hg (by simp [flat_length, hcur]) (flat_one r)
    refine ⟨w.setRow g (flat r).toArray, ?_, setRow_heap w g cur _ _ _ hg, ⟨rfl, rfl, rfl, by simp [World.setRow], fun k _ hk => setRow_other w g k _ (fun e => hk (by rw [e]))⟩⟩
    have hd : cur.toList.drop (flat r).length = [] := List.drop_eq_nil_of_le (by simp [flat_length, hcur])
    simp only [flat_length] at hl hst hd
    simp [Builtin.copy_, run_underlying Tryd.underlying27, Builtin.lenOf, Builtin.firstCells, sizeOf, typeInfo, hi, hsz, hl, hst, hd, goInt]

end Go.Proofs.YtpmlhgakbpfgmaaDoor
